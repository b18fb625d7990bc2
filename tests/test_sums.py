"""plus and minus."""

import random
import unittest

from tests.compared import FEW, MANY, NONE, SMALL, WIDE, Compared, drawn_small, drawn_wide, fill
from tests.helper import BOUND, count, has, last, minus, of, parts, plus, run, told

BOTH = (("plus", 2, 0, 1), ("minus", 3, 0, 1), ("told", 2), ("told", 3), ("told", 0), ("told", 1))


class OfFew(unittest.TestCase):
    def test_few_sums_are_few(self):
        made = (of(0, [1, 2]), of(1, [10, 20]))
        self.assertEqual(last(*made, plus(2, 0, 1)), [1, 11, 22, 1, 0, 0, 4, 11, 12, 21, 22])
        self.assertEqual(last(*made, minus(2, 0, 1)), [1, -19, -8, 1, 0, 0, 4, -19, -18, -9, -8])

    def test_the_same_sum_twice_counts_once(self):
        made = (of(0, [0, 2, 4]), of(1, [10, 12, 14, 16]))
        self.assertEqual(last(*made, plus(2, 0, 1)), [1, 10, 20, 2, 0, 0, 6, 10, 12, 14, 16, 18, 20])

    def test_more_than_six_sums_are_many(self):
        made = (of(0, [0, 10, 20]), of(1, [1, 101, 201]))
        self.assertEqual(run(*made, plus(2, 0, 1), count(2))[2:], [[1, 1, 221, 10, 1, 0, 0], [23]])

    def test_0_is_there_if_it_is_a_sum(self):
        made = (of(0, [-3, -1, 1]), of(1, [-30, 3, 10, 20]))
        self.assertEqual(run(*made, plus(2, 0, 1), has(2, 0))[2:], [[1, -33, 21, 1, 0, 1, 0], [1]])
        self.assertEqual(run(*made, minus(2, 0, 1), has(2, 0))[2:], [[1, -23, 31, 1, 0, 0, 0], [0]])


class OfFewAndMany(unittest.TestCase):
    def test_one_number_moves_the_others(self):
        made = (of(0, [5]), parts(1, -9, 99, 9, 0, 1))
        self.assertEqual(last(*made, plus(2, 0, 1)), [1, -4, 104, 9, 5, 0, 0])
        self.assertEqual(last(*made, plus(2, 1, 0)), [1, -4, 104, 9, 5, 0, 0])
        self.assertEqual(last(*made, minus(2, 0, 1)), [1, -94, 14, 9, 5, 0, 0])
        self.assertEqual(last(*made, minus(2, 1, 0)), [1, -14, 94, 9, 4, 0, 0])

    def test_as_it_stands_in_the_document(self):
        made = (of(0, [3, 7, 11]), parts(1, -5, 50, 3, 1, 1))
        self.assertEqual(run(*made, plus(2, 0, 1), has(2, 0))[2:], [[1, -2, 60, 1, 0, 0, 0], [0]])

    def test_0_left_out_is_only_left_out_of_the_sums_if_it_is_no_sum(self):
        many = parts(1, -12, 12, 2, 0, 0)
        self.assertEqual(run(of(0, [0]), many, plus(2, 0, 1), has(2, 0))[2:], [[1, -12, 12, 2, 0, 0, 0], [0]])
        # 4 is no sum here, but only 0 can be left out of many.
        self.assertEqual(run(of(0, [4]), many, plus(2, 0, 1), has(2, 4))[2:], [[1, -8, 16, 2, 0, 1, 0], [1]])
        self.assertEqual(run(of(0, [0, 2]), many, plus(2, 0, 1), has(2, 0))[2:], [[1, -12, 14, 2, 0, 1, 0], [1]])
        self.assertEqual(last(of(0, [-12]), parts(1, 2, 24, 2, 0, 1), plus(2, 0, 1)), [1, -10, 12, 2, 0, 1, 0])
        self.assertEqual(last(of(0, [-13]), parts(1, 2, 24, 2, 0, 1), plus(2, 0, 1)), [1, -11, 11, 2, 1, 0, 0])

    def test_the_missing_number_at_the_end_of_what_fits(self):
        many = parts(1, -10, 10, 1, 0, 0)
        self.assertEqual(last(of(0, [BOUND]), many, plus(2, 0, 1)), [1, BOUND - 10, BOUND - 1, 1, 0, 0, 0])
        self.assertEqual(last(of(0, [BOUND]), many, minus(2, 0, 1)), [1, BOUND - 10, BOUND - 1, 1, 0, 0, 0])
        self.assertEqual(last(of(0, [-BOUND]), many, plus(2, 1, 0)), [1, 1 - BOUND, 10 - BOUND, 1, 0, 0, 0])
        self.assertEqual(last(of(0, [BOUND]), many, minus(2, 1, 0)), [1, 1 - BOUND, 10 - BOUND, 1, 0, 0, 0])

    def test_the_missing_number_leaves_few(self):
        many = parts(1, -10, 3, 1, 0, 0)
        self.assertEqual(
            last(of(0, [3 - BOUND]), many, plus(2, 0, 1)),
            [1, -BOUND, 6 - BOUND, 1, 0, 0, 6] + [n - BOUND for n in (0, 1, 2, 4, 5, 6)])


class BeyondTheBound(unittest.TestCase):
    """Many numbers from 1 to 100, so far up or down that fewer and fewer sums are left."""

    many = parts(1, 1, 100, 1, 0, 1)

    def test_many_are_left(self):
        self.assertEqual(last(of(0, [BOUND - 7]), self.many, plus(2, 0, 1)), [1, BOUND - 6, BOUND, 1, 0, 0, 0])
        self.assertEqual(last(of(0, [7 - BOUND]), self.many, minus(2, 0, 1)), [1, -BOUND, 6 - BOUND, 1, 0, 0, 0])

    def test_few_are_left(self):
        top = list(range(BOUND - 5, BOUND + 1))
        self.assertEqual(last(of(0, [BOUND - 6]), self.many, plus(2, 0, 1)), [1, BOUND - 5, BOUND, 1, 0, 0, 6] + top)
        bottom = list(range(-BOUND, 6 - BOUND))
        self.assertEqual(
            last(of(0, [6 - BOUND]), self.many, minus(2, 0, 1)), [1, -BOUND, 5 - BOUND, 1, 0, 0, 6] + bottom)

    def test_one_is_left(self):
        self.assertEqual(last(of(0, [BOUND - 1]), self.many, plus(2, 1, 0)), [1, BOUND, BOUND, 0, BOUND, 0, 1, BOUND])
        self.assertEqual(
            last(of(0, [1 - BOUND]), self.many, minus(2, 0, 1)), [1, -BOUND, -BOUND, 0, -BOUND, 0, 1, -BOUND])

    def test_none_is_left(self):
        self.assertEqual(last(of(2, [3]), of(0, [BOUND]), self.many, plus(2, 0, 1)), [0])
        self.assertEqual(run(of(2, [3]), of(0, [-BOUND]), self.many, minus(2, 0, 1), told(2))[3:], [[0], [0]])
        self.assertEqual(last(of(0, [BOUND]), of(1, [1]), plus(2, 0, 1)), [0])
        self.assertEqual(last(parts(0, 600000, BOUND, 1, 0, 1), plus(2, 0, 0)), [0])
        made = (parts(0, -BOUND, -600000, 1, 0, 1), parts(1, 600000, BOUND, 1, 0, 1))
        self.assertEqual(last(*made, minus(2, 0, 1)), [0])

    def test_of_some_sums_only_some_are_left(self):
        made = of(0, [-BOUND, 5, BOUND])
        self.assertEqual(last(made, of(1, [2]), plus(2, 0, 1)), [1, 2 - BOUND, 7, 1000005, 7, 0, 2, 2 - BOUND, 7])
        self.assertEqual(last(made, of(1, [2]), minus(2, 0, 1)), [1, 3, 999998, 999995, 3, 0, 2, 3, 999998])
        self.assertEqual(
            last(of(0, [-BOUND, BOUND]), parts(1, -99, 99, 11, 0, 0), plus(2, 0, 1)),
            [1, 11 - BOUND, BOUND - 11, 1, 0, 0, 0])

    def test_what_does_not_fit_says_nothing_of_the_distances(self):
        made = (of(0, [BOUND - 10, 0]), parts(1, 0, 100, 10, 0, 1))
        self.assertEqual(last(*made, plus(2, 0, 1)), [1, 0, BOUND, 10, 0, 1, 0])
        made = (of(0, [BOUND - 3, 0]), parts(1, 10, 100, 10, 0, 1))
        self.assertEqual(last(*made, plus(2, 0, 1)), [1, 10, 100, 10, 0, 0, 0])
        made = (of(0, [3 - BOUND, 0]), parts(1, -100, -10, 10, 0, 1))
        self.assertEqual(last(*made, plus(2, 0, 1)), [1, -100, -10, 10, 0, 0, 0])

    def test_two_that_are_many(self):
        widest = parts(0, -BOUND, BOUND, 1, 0, 1)
        self.assertEqual(run(widest, plus(1, 0, 0), minus(2, 0, 0)), [[1, -BOUND, BOUND, 1, 0, 1, 0]] * 3)
        made = (parts(0, 499990, 600000, 2, 0, 1), parts(1, 499990, 600000, 4, 1, 1))
        self.assertEqual(last(*made, plus(2, 0, 1)), [1, 999983, 999999, 2, 1, 0, 0])
        made = (parts(0, 499990, 600000, 2, 0, 1), parts(1, 499999, 600000, 4, 3, 1))
        self.assertEqual(
            last(*made, plus(2, 0, 1)), [1, 999989, 999999, 2, 1, 0, 6, 999989, 999991, 999993, 999995, 999997, 999999])


class OfTwoMany(unittest.TestCase):
    def test_distances_and_remainders(self):
        made = (parts(0, 5, 95, 6, 5, 1), parts(1, -31, 89, 10, 9, 1))
        self.assertEqual(last(*made, plus(2, 0, 1)), [1, -26, 184, 2, 0, 1, 0])
        self.assertEqual(last(*made, minus(2, 0, 1)), [1, -84, 126, 2, 0, 1, 0])
        self.assertEqual(last(*made, minus(2, 1, 0)), [1, -126, 84, 2, 0, 1, 0])

    def test_the_remainder_of_the_second_is_turned(self):
        made = (parts(0, 1, 91, 9, 1, 1), parts(1, 2, 92, 9, 2, 1))
        self.assertEqual(last(*made, plus(2, 0, 1)), [1, 3, 183, 9, 3, 0, 0])
        self.assertEqual(last(*made, minus(2, 0, 1)), [1, -91, 89, 9, 8, 0, 0])
        self.assertEqual(last(*made, minus(2, 1, 0)), [1, -89, 91, 9, 1, 0, 0])

    def test_distances_without_a_common_divisor(self):
        made = (parts(0, 0, 60, 6, 0, 1), parts(1, 0, 70, 7, 0, 1))
        self.assertEqual(last(*made, plus(2, 0, 1)), [1, 0, 130, 1, 0, 1, 0])

    def test_0_is_there_whether_they_have_it_or_not(self):
        for z in (0, 1):
            made = (parts(0, -20, 20, 2, 0, z), parts(1, -40, 40, 4, 0, z))
            self.assertEqual(last(*made, plus(2, 0, 1)), [1, -60, 60, 2, 0, 1, 0])
            self.assertEqual(last(*made, minus(2, 0, 1)), [1, -60, 60, 2, 0, 1, 0])

    def test_of_a_slot_with_itself(self):
        self.assertEqual(run(parts(0, 3, 73, 7, 3, 1), plus(1, 0, 0), minus(2, 0, 0))[1:],
                         [[1, 6, 146, 7, 6, 0, 0], [1, -70, 70, 7, 0, 1, 0]])


class SlotsTwice(Compared):
    def test_a_slot_with_itself(self):
        for filling in SMALL + WIDE:
            for name in ("plus", "minus"):
                self.assert_as_plain(fill(0, filling), (name, 1, 0, 0), (name, 0, 0, 0), ("told", 0))

    def test_new_is_a_or_b(self):
        for filling in (NONE[0], FEW[7], MANY[0]):
            for other in (NONE[0], FEW[8], MANY[3]):
                for name in ("plus", "minus"):
                    for new in (0, 1):
                        self.assert_as_plain(
                            fill(0, filling), fill(1, other), (name, new, 0, 1), ("told", 0), ("told", 1))


class AgainstPlainSets(Compared):
    def test_all_pairs(self):
        self.assert_pairs_as_plain(SMALL, SMALL, *BOTH)

    def test_all_pairs_at_the_bound(self):
        self.assert_pairs_as_plain(WIDE, WIDE, *BOTH)

    def test_drawn_pairs(self):
        chance = random.Random(4)
        for trial in range(1500):
            draw = drawn_wide if trial % 3 == 0 else drawn_small
            self.assert_as_plain(fill(0, draw(chance)), fill(1, draw(chance)), *BOTH)

    def test_drawn_pairs_at_either_end(self):
        chance = random.Random(5)
        for trial in range(600):
            side = chance.choice((-1, 1))
            few = [side * BOUND - side * chance.randint(0, 40) for turn in range(chance.randint(1, 3))]
            lo = chance.randint(-60, 20)
            many = (lo, lo + chance.randint(7, 90), chance.choice((1, 2, 3, 5)), chance.randint(0, 4), trial % 2)
            self.assert_as_plain(fill(0, few), fill(1, many), *BOTH)
            self.assert_as_plain(fill(0, many), fill(1, few), *BOTH)


if __name__ == "__main__":
    unittest.main()
