"""join and meet."""

import random
import unittest

from tests.helper import BOUND, count, has, join, last, meet, of, parts, run, told
from tests.plain import set_hull, set_made_of, set_told

MANY = parts(1, -20, 40, 4, 0, 1)
MANY_TOLD = [1, -20, 40, 4, 0, 1, 0]
FEW = of(1, [-4, 0, 6])
FEW_TOLD = [1, -4, 6, 2, 0, 1, 3, -4, 0, 6]


class Joined(unittest.TestCase):
    def test_with_none(self):
        for made, shown in ((FEW, FEW_TOLD), (MANY, MANY_TOLD), (of(1, []), [0])):
            self.assertEqual(run(made, join(2, 1, 0), told(2))[1:], [shown, shown])
            self.assertEqual(run(made, join(2, 0, 1), told(2))[1:], [shown, shown])

    def test_few_with_few_stay_few(self):
        self.assertEqual(
            last(FEW, of(2, [6, 8, 12, 14]), join(3, 1, 2)), [1, -4, 14, 2, 0, 1, 6, -4, 0, 6, 8, 12, 14])

    def test_few_with_few_become_many(self):
        self.assertEqual(last(FEW, of(2, [8, 10, 12, 14]), join(3, 1, 2)), [1, -4, 14, 2, 0, 1, 0])
        self.assertEqual(last(of(0, [1, 2, 3, 4]), of(1, [-1, -2, -3]), join(2, 0, 1)), [1, -3, 4, 1, 0, 0, 0])
        self.assertEqual(last(of(0, [1, 2, 3, 4]), of(1, [-1, 0, -3]), join(2, 0, 1)), [1, -3, 4, 1, 0, 1, 0])

    def test_few_with_many(self):
        self.assertEqual(last(MANY, of(2, [8]), join(3, 2, 1)), MANY_TOLD)
        self.assertEqual(last(MANY, of(2, [46]), join(3, 1, 2)), [1, -20, 46, 2, 0, 1, 0])
        self.assertEqual(last(MANY, of(2, [-29, 31]), join(3, 2, 1)), [1, -29, 40, 1, 0, 1, 0])

    def test_many_with_many(self):
        self.assertEqual(
            last(parts(0, 1, 61, 12, 1, 1), parts(1, 10, 200, 18, 10, 1), join(2, 0, 1)), [1, 1, 190, 3, 1, 0, 0])
        self.assertEqual(
            last(parts(0, 1, 99, 12, 1, 1), parts(1, 7, 99, 12, 7, 1), join(2, 0, 1)), [1, 1, 97, 6, 1, 0, 0])
        self.assertEqual(
            last(parts(0, -9, 0, 1, 0, 0), parts(1, 0, 9, 1, 0, 0), join(2, 0, 1)), [1, -9, 9, 1, 0, 0, 0])

    def test_0_is_there_if_one_has_it(self):
        without = parts(0, -9, 9, 1, 0, 0)
        self.assertEqual(run(without, of(1, [0]), join(2, 0, 1), has(2, 0))[2:], [[1, -9, 9, 1, 0, 1, 0], [1]])
        self.assertEqual(run(without, of(1, [1]), join(2, 1, 0), has(2, 0))[2:], [[1, -9, 9, 1, 0, 0, 0], [0]])

    def test_to_the_bound(self):
        self.assertEqual(
            run(of(0, [-BOUND]), parts(1, 1, BOUND, 1, 0, 1), join(2, 0, 1), count(2))[2:],
            [[1, -BOUND, BOUND, 1, 0, 0, 0], [2 * BOUND]])


class Met(unittest.TestCase):
    def test_with_none(self):
        for made in (FEW, MANY, of(1, [])):
            self.assertEqual(run(made, of(2, [1]), meet(2, 1, 0), told(2))[2:], [[0], [0]])
            self.assertEqual(run(made, of(2, [1]), meet(2, 0, 1), told(2))[2:], [[0], [0]])

    def test_few_with_few(self):
        self.assertEqual(last(FEW, of(2, [6, 1, -4]), meet(3, 1, 2)), [1, -4, 6, 10, 6, 0, 2, -4, 6])
        self.assertEqual(last(FEW, of(2, [5, 1, -3]), meet(3, 1, 2)), [0])

    def test_few_with_many(self):
        for call in (meet(3, 1, 2), meet(3, 2, 1)):
            self.assertEqual(
                last(MANY, of(2, [-24, -20, 0, 2, 40, 44]), call), [1, -20, 40, 20, 0, 1, 3, -20, 0, 40])
            self.assertEqual(last(MANY, of(2, [1, 2, 3]), call), [0])
            self.assertEqual(last(parts(1, -9, 9, 1, 0, 0), of(2, [0, 1]), call), [1, 1, 1, 0, 1, 0, 1, 1])

    def test_many_with_many_are_many(self):
        self.assertEqual(
            last(parts(0, -100, 100, 4, 1, 1), parts(1, -90, 110, 6, 3, 1), meet(2, 0, 1)), [1, -87, 93, 12, 9, 0, 0])
        self.assertEqual(
            last(parts(0, -99, 50, 1, 0, 1), parts(1, -50, 99, 1, 0, 1), meet(2, 0, 1)), [1, -50, 50, 1, 0, 1, 0])

    def test_many_with_many_are_few(self):
        self.assertEqual(
            last(parts(0, 0, 100, 7, 3, 1), parts(1, 0, 100, 11, 5, 1), meet(2, 0, 1)), [1, 38, 38, 0, 38, 0, 1, 38])
        self.assertEqual(
            last(parts(0, -30, 30, 4, 0, 1), parts(1, -30, 30, 6, 0, 0), meet(2, 0, 1)),
            [1, -24, 24, 12, 0, 0, 4, -24, -12, 12, 24])

    def test_many_with_many_are_none(self):
        self.assertEqual(last(parts(0, 0, 100, 4, 0, 1), parts(1, 0, 100, 6, 3, 1), meet(2, 0, 1)), [0])
        self.assertEqual(last(parts(0, 0, 50, 4, 0, 1), parts(1, 51, 100, 6, 0, 1), meet(2, 0, 1)), [0])
        self.assertEqual(last(parts(0, 1, 99, 13, 0, 1), parts(1, 1, 99, 14, 0, 1), meet(2, 0, 1)), [0])
        self.assertEqual(last(parts(0, -99, 99, 13, 0, 0), parts(1, -99, 99, 14, 0, 1), meet(2, 0, 1)), [0])

    def test_0_is_there_if_both_have_it(self):
        for z, other_z in ((0, 0), (0, 1), (1, 0), (1, 1)):
            made = (parts(0, -60, 60, 2, 0, z), parts(1, -60, 60, 3, 0, other_z))
            both = z * other_z
            self.assertEqual(run(*made, meet(2, 0, 1), has(2, 0))[2:], [[1, -60, 60, 6, 0, both, 0], [both]])

    def test_0_left_out_at_an_end(self):
        made = (parts(0, -60, 60, 2, 0, 0), parts(1, 0, 60, 3, 0, 1))
        self.assertEqual(last(*made, meet(2, 0, 1)), [1, 6, 60, 6, 0, 0, 0])

    def test_seven_without_0_are_six(self):
        made = (parts(0, -18, 18, 2, 0, 0), parts(1, -18, 18, 3, 0, 1))
        self.assertEqual(last(*made, meet(2, 0, 1)), [1, -18, 18, 6, 0, 0, 6, -18, -12, -6, 6, 12, 18])

    def test_distances_far_apart(self):
        made = (parts(0, -BOUND, BOUND, 99991, 3, 1), parts(1, -BOUND, BOUND, 99989, 3, 1))
        self.assertEqual(last(*made, meet(2, 0, 1)), [1, 3, 3, 0, 3, 0, 1, 3])
        made = (parts(0, -BOUND, BOUND, 333333, 1, 1), parts(1, -BOUND, BOUND, 8, 1, 1))
        self.assertEqual(last(*made, meet(2, 0, 1)), [1, 1, 1, 0, 1, 0, 1, 1])


class SlotsTwice(unittest.TestCase):
    def test_a_slot_with_itself(self):
        for made, shown in ((FEW, FEW_TOLD), (MANY, MANY_TOLD), (of(1, []), [0])):
            self.assertEqual(run(made, join(2, 1, 1), meet(3, 1, 1))[1:], [shown, shown])
            self.assertEqual(run(made, join(1, 1, 1), told(1))[1:], [shown, shown])
            self.assertEqual(run(made, meet(1, 1, 1), told(1))[1:], [shown, shown])

    def test_new_is_a_or_b(self):
        made = (of(0, [1, 2]), of(1, [2, 3]))
        joined = [1, 1, 3, 1, 0, 0, 3, 1, 2, 3]
        met = [1, 2, 2, 0, 2, 0, 1, 2]
        for call, shown in ((join, joined), (meet, met)):
            given = run(*made, call(0, 0, 1), told(0), told(1))
            self.assertEqual(given[2:], [shown, shown, [1, 2, 3, 1, 0, 0, 2, 2, 3]])
            given = run(*made, call(1, 0, 1), told(1), told(0))
            self.assertEqual(given[2:], [shown, shown, [1, 1, 2, 1, 0, 0, 2, 1, 2]])

    def test_what_was_shared_stays_in_the_other_slot(self):
        given = run(FEW, join(2, 1, 0), of(2, [5]), told(1), join(1, 1, 2), told(2))
        self.assertEqual(given[3:], [FEW_TOLD, [1, -4, 6, 1, 0, 1, 4, -4, 0, 5, 6], [1, 5, 5, 0, 5, 0, 1, 5]])


class AgainstPlainSets(unittest.TestCase):
    def drawn(self, chance, slot):
        """A call that fills the slot, and the set of what it then has."""
        if chance.randint(0, 2) == 0:
            numbers = [chance.randint(-20, 20) for turn in range(chance.randint(0, 8))]
            return of(slot, numbers), set_hull(set(numbers))
        lo = chance.choice((0, -24, chance.randint(-150, 50)))
        hi = chance.choice((0, 24, lo + chance.randint(-5, 200)))
        m = chance.choice((1, 1, 2, 3, 4, 5, 6, 8, 9, 12))
        r = chance.choice((0, 0, chance.randint(-30, 30)))
        z = chance.randint(0, 1)
        return parts(slot, lo, hi, m, r, z), set_made_of(lo, hi, m, r, z)

    def test_joins_and_meets(self):
        chance = random.Random(2)
        for trial in range(4000):
            call, numbers = self.drawn(chance, 0)
            other_call, other_numbers = self.drawn(chance, 1)
            given = run(call, other_call, join(2, 0, 1), meet(3, 0, 1))
            self.assertEqual(given[2], set_told(set_hull(numbers | other_numbers)), (call, other_call))
            self.assertEqual(given[3], set_told(numbers & other_numbers), (call, other_call))

    def test_many_at_the_bound(self):
        chance = random.Random(3)
        for trial in range(300):
            row = (-BOUND, BOUND, chance.randint(1, 3000), chance.randint(-BOUND, BOUND), trial % 2)
            other_row = (-BOUND, BOUND, chance.randint(1, 3000), chance.randint(-BOUND, BOUND), trial // 2 % 2)
            met = self.stepped(row) & self.stepped(other_row)
            self.assertEqual(last(parts(0, *row), parts(1, *other_row), meet(2, 0, 1)), set_told(met), (row, other_row))

    def stepped(self, row):
        lo, hi, m, r, z = row
        numbers = set(range(lo + (r - lo) % m, hi + 1, m))
        return numbers if z == 1 else numbers - {0}


if __name__ == "__main__":
    unittest.main()
