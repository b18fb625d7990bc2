"""rem."""

import random
import unittest

from tests.compared import SMALL, WIDE, Compared, drawn_small, drawn_wide, fill
from tests.helper import BOUND, last, of, parts, rem, run, told


class OfNoneAndFew(unittest.TestCase):
    def test_none(self):
        self.assertEqual(run(of(1, [4]), rem(1, 0, 7), told(1))[1:], [[0], [0]])

    def test_few(self):
        self.assertEqual(last(of(0, [3, 9, 12]), rem(1, 0, 7)), [1, 2, 5, 1, 0, 0, 3, 2, 3, 5])

    def test_the_same_remainder_twice_counts_once(self):
        self.assertEqual(last(of(0, [-11, 3, 10, 17]), rem(1, 0, 7)), [1, 3, 3, 0, 3, 0, 1, 3])

    def test_below_0(self):
        self.assertEqual(last(of(0, [-1]), rem(1, 0, 7)), [1, 6, 6, 0, 6, 0, 1, 6])
        self.assertEqual(last(of(0, [-7, -8]), rem(1, 0, 7)), [1, 0, 6, 6, 0, 1, 2, 0, 6])
        self.assertEqual(last(of(0, [-BOUND, BOUND]), rem(1, 0, 99)), [1, 1, 98, 97, 1, 0, 2, 1, 98])

    def test_by_1_and_by_99(self):
        self.assertEqual(last(of(0, [-5, 8]), rem(1, 0, 1)), [1, 0, 0, 0, 0, 1, 1, 0])
        self.assertEqual(last(of(0, [-5, 98, 99]), rem(1, 0, 99)), [1, 0, 98, 2, 0, 1, 3, 0, 94, 98])


class BetweenTheSameMultiples(unittest.TestCase):
    def test_above_0(self):
        self.assertEqual(last(parts(0, 103, 127, 3, 1, 1), rem(1, 0, 50)), [1, 3, 27, 3, 0, 0, 0])

    def test_below_0(self):
        self.assertEqual(last(parts(0, -47, -3, 4, 1, 1), rem(1, 0, 50)), [1, 3, 47, 4, 3, 0, 0])
        self.assertEqual(last(parts(0, -97, -53, 4, 3, 1), rem(1, 0, 50)), [1, 3, 47, 4, 3, 0, 0])

    def test_the_lower_multiple_counts(self):
        self.assertEqual(last(parts(0, 100, 142, 7, 2, 1), rem(1, 0, 50)), [1, 0, 42, 7, 0, 1, 0])
        self.assertEqual(last(parts(0, -100, -58, 7, 5, 1), rem(1, 0, 50)), [1, 0, 42, 7, 0, 1, 0])
        self.assertEqual(last(parts(0, 0, 42, 7, 0, 1), rem(1, 0, 50)), [1, 0, 42, 7, 0, 1, 0])
        self.assertEqual(last(parts(0, 99, 198, 1, 0, 1), rem(1, 0, 99)), [1, 0, 98, 1, 0, 1, 0])
        self.assertEqual(last(parts(0, 99, 197, 1, 0, 1), rem(1, 0, 99)), [1, 0, 98, 1, 0, 1, 0])
        self.assertEqual(last(parts(0, 100, 196, 2, 0, 1), rem(1, 0, 99)), [1, 1, 97, 2, 1, 0, 0])

    def test_the_upper_multiple_does_not(self):
        self.assertEqual(last(parts(0, 101, 149, 8, 5, 1), rem(1, 0, 50)), [1, 1, 49, 8, 1, 0, 0])
        self.assertEqual(last(parts(0, 102, 150, 8, 6, 1), rem(1, 0, 50)), [1, 0, 48, 2, 0, 1, 0])
        self.assertEqual(last(parts(0, -48, 0, 8, 0, 1), rem(1, 0, 50)), [1, 0, 48, 2, 0, 1, 0])
        self.assertEqual(last(parts(0, -49, -1, 8, 7, 1), rem(1, 0, 50)), [1, 1, 49, 8, 1, 0, 0])

    def test_at_the_bound(self):
        self.assertEqual(last(parts(0, BOUND - 9, BOUND, 1, 0, 1), rem(1, 0, 11)), [1, 0, 10, 1, 0, 1, 0])
        self.assertEqual(last(parts(0, BOUND - 8, BOUND, 1, 0, 1), rem(1, 0, 30)), [1, 2, 10, 1, 0, 0, 0])
        self.assertEqual(last(parts(0, -BOUND, 8 - BOUND, 1, 0, 1), rem(1, 0, 40)), [1, 0, 8, 1, 0, 1, 0])


class AcrossAMultiple(unittest.TestCase):
    def test_n_divides_m(self):
        self.assertEqual(last(parts(0, 3, 203, 20, 3, 1), rem(1, 0, 5)), [1, 3, 3, 0, 3, 0, 1, 3])
        self.assertEqual(last(parts(0, -177, 3, 20, 3, 1), rem(1, 0, 20)), [1, 3, 3, 0, 3, 0, 1, 3])
        self.assertEqual(last(parts(0, -177, 3, 20, 3, 1), rem(1, 0, 10)), [1, 3, 3, 0, 3, 0, 1, 3])

    def test_m_divides_n(self):
        self.assertEqual(last(parts(0, 3, 203, 5, 3, 1), rem(1, 0, 20)), [1, 3, 18, 5, 3, 0, 4, 3, 8, 13, 18])
        self.assertEqual(last(parts(0, 3, 203, 5, 3, 1), rem(1, 0, 60)), [1, 3, 58, 5, 3, 0, 0])

    def test_nothing_in_common(self):
        self.assertEqual(last(parts(0, 3, 203, 8, 3, 1), rem(1, 0, 9)), [1, 0, 8, 1, 0, 1, 0])
        self.assertEqual(last(parts(0, 3, 203, 8, 3, 1), rem(1, 0, 5)), [1, 0, 4, 1, 0, 1, 5, 0, 1, 2, 3, 4])

    def test_something_in_common(self):
        self.assertEqual(last(parts(0, -49, 203, 12, 11, 1), rem(1, 0, 18)), [1, 5, 17, 6, 5, 0, 3, 5, 11, 17])

    def test_0_is_there_though_the_value_has_it_not(self):
        self.assertEqual(last(parts(0, -20, 20, 2, 0, 0), rem(1, 0, 16)), [1, 0, 14, 2, 0, 1, 0])
        self.assertEqual(last(parts(0, -4, 4, 1, 0, 0), rem(1, 0, 99)), [1, 0, 98, 1, 0, 1, 0])

    def test_remainders_that_no_number_leaves_are_there_too(self):
        self.assertEqual(last(parts(0, 46, 53, 1, 0, 1), rem(1, 0, 50)), [1, 0, 49, 1, 0, 1, 0])

    def test_by_1(self):
        self.assertEqual(last(parts(0, -5, 50, 3, 1, 1), rem(1, 0, 1)), [1, 0, 0, 0, 0, 1, 1, 0])


class AgainstPlainSets(Compared):
    def test_every_n(self):
        for filling in SMALL + WIDE:
            calls = [("rem", 1 + n % 5, 0, n) for n in range(1, 99)]
            self.assert_as_plain(fill(0, filling), *calls, ("rem", 0, 0, 99))

    def test_rows_round_the_multiples(self):
        for lo in range(-26, 27):
            for length in (7, 8, 11, 12, 13, 14):
                calls = [("rem", 1, 0, n) for n in (7, 8, 12, 13, 24)]
                self.assert_as_plain(("parts", 0, lo, lo + length, 1, 0, 1), *calls)
                self.assert_as_plain(("parts", 0, lo, lo + length, 1, 0, 0), *calls)

    def test_drawn(self):
        chance = random.Random(8)
        for trial in range(1500):
            filling = drawn_wide(chance) if trial % 5 == 0 else drawn_small(chance)
            self.assert_as_plain(fill(0, filling), ("rem", 0, 0, chance.randint(1, 99)), ("told", 0))


if __name__ == "__main__":
    unittest.main()
