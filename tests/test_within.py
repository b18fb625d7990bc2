"""within."""

import random
import unittest

from tests.compared import SMALL, WIDE, Compared, drawn_small, drawn_wide, fill
from tests.helper import BOUND, last, of, parts, run, told, within


class Within(unittest.TestCase):
    def both_ways(self, made, other):
        return [answer[0] for answer in run(made, other, within(0, 1), within(1, 0))[2:]]

    def test_none(self):
        self.assertEqual(self.both_ways(of(0, []), of(1, [])), [1, 1])
        self.assertEqual(self.both_ways(of(0, []), of(1, [0])), [1, 0])
        self.assertEqual(self.both_ways(of(0, []), parts(1, -9, 9, 1, 0, 1)), [1, 0])

    def test_few_and_few(self):
        self.assertEqual(self.both_ways(of(0, [1, 4]), of(1, [4, 1])), [1, 1])
        self.assertEqual(self.both_ways(of(0, [1, 4]), of(1, [1, 2, 4])), [1, 0])
        self.assertEqual(self.both_ways(of(0, [1, 3]), of(1, [1, 2, 4])), [0, 0])

    def test_few_and_many(self):
        many = parts(1, -20, 40, 4, 0, 0)
        self.assertEqual(self.both_ways(of(0, [-20, 4, 40]), many), [1, 0])
        for number in (0, -24, 44, 5):
            self.assertEqual(self.both_ways(of(0, [4, number]), many), [0, 0])

    def test_many_and_many(self):
        many = parts(1, -20, 40, 4, 0, 1)
        self.assertEqual(self.both_ways(parts(0, -20, 40, 4, 0, 1), many), [1, 1])
        self.assertEqual(self.both_ways(parts(0, -16, 40, 8, 0, 1), many), [1, 0])
        self.assertEqual(self.both_ways(parts(0, 100, 140, 4, 0, 1), many), [0, 0])

    def test_only_0_tells_them_apart(self):
        self.assertEqual(self.both_ways(parts(0, -20, 40, 4, 0, 0), parts(1, -20, 40, 4, 0, 1)), [1, 0])
        self.assertEqual(self.both_ways(of(0, [1, 2]), of(1, [0, 1, 2])), [1, 0])
        self.assertEqual(self.both_ways(of(0, [0]), parts(1, -20, 40, 4, 0, 0)), [0, 0])
        self.assertEqual(self.both_ways(of(0, [0]), parts(1, -20, 40, 4, 0, 1)), [1, 0])

    def test_only_the_remainder_tells_them_apart(self):
        self.assertEqual(self.both_ways(parts(0, -19, 41, 4, 1, 1), parts(1, -50, 50, 4, 2, 1)), [0, 0])
        self.assertEqual(self.both_ways(parts(0, -19, 41, 4, 1, 1), parts(1, -50, 50, 2, 0, 1)), [0, 0])
        self.assertEqual(self.both_ways(parts(0, -19, 41, 4, 1, 1), parts(1, -50, 50, 2, 1, 1)), [1, 0])

    def test_only_the_distance_tells_them_apart(self):
        self.assertEqual(self.both_ways(parts(0, -18, 18, 6, 0, 1), parts(1, -18, 18, 9, 0, 1)), [0, 0])
        self.assertEqual(self.both_ways(parts(0, -72, 72, 6, 0, 1), parts(1, -72, 72, 9, 0, 1)), [0, 0])

    def test_only_one_end_tells_them_apart(self):
        many = parts(1, -20, 40, 4, 0, 1)
        self.assertEqual(self.both_ways(parts(0, -16, 40, 4, 0, 1), many), [1, 0])
        self.assertEqual(self.both_ways(parts(0, -20, 36, 4, 0, 1), many), [1, 0])
        self.assertEqual(self.both_ways(parts(0, -16, 44, 4, 0, 1), many), [0, 0])
        self.assertEqual(self.both_ways(parts(0, -24, 36, 4, 0, 1), many), [0, 0])

    def test_the_widest(self):
        widest = parts(1, -BOUND, BOUND, 1, 0, 1)
        self.assertEqual(self.both_ways(parts(0, -BOUND, BOUND, 1, 0, 0), widest), [1, 0])
        self.assertEqual(self.both_ways(of(0, [-BOUND, BOUND]), widest), [1, 0])
        self.assertEqual(self.both_ways(parts(0, 1 - BOUND, BOUND, 1, 0, 1), widest), [1, 0])

    def test_changes_nothing(self):
        made = (of(0, [1, 4]), parts(1, -20, 40, 4, 0, 1))
        self.assertEqual(run(*made, within(0, 1), told(0), told(1))[3:], run(*made))

    def test_a_slot_with_itself(self):
        for made in (of(0, []), of(0, [0]), of(0, [2, 9]), parts(0, -9, 9, 1, 0, 0), parts(0, 5, 95, 10, 5, 1)):
            self.assertEqual(last(made, within(0, 0)), [1])


class AgainstPlainSets(Compared):
    both = (("within", 0, 1), ("within", 1, 0), ("within", 0, 0))

    def test_all_pairs(self):
        self.assert_pairs_as_plain(SMALL, SMALL, *self.both)

    def test_all_pairs_at_the_bound(self):
        self.assert_pairs_as_plain(WIDE, WIDE, *self.both)

    def test_drawn_pairs(self):
        chance = random.Random(10)
        for trial in range(2000):
            draw = drawn_wide if trial % 3 == 0 else drawn_small
            self.assert_as_plain(fill(0, draw(chance)), fill(1, draw(chance)), *self.both)


if __name__ == "__main__":
    unittest.main()
