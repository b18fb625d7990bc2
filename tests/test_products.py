"""times."""

import random
import unittest

from tests.compared import (
    FEW, MANY, NONE, SMALL, WIDE, WIDE_FEW, WIDE_MANY, Compared, drawn_small, drawn_wide, fill)
from tests.helper import BOUND, count, has, last, of, parts, run, times, told

TIMES = (("times", 2, 0, 1), ("told", 2), ("told", 0), ("told", 1))


class OfFew(unittest.TestCase):
    def test_few_products_are_few(self):
        made = (of(0, [-2, 3]), of(1, [5, 7]))
        self.assertEqual(last(*made, times(2, 0, 1)), [1, -14, 21, 1, 0, 0, 4, -14, -10, 15, 21])

    def test_the_same_product_twice_counts_once(self):
        self.assertEqual(last(of(0, [2, 3]), of(1, [6, 4]), times(2, 0, 1)), [1, 8, 18, 2, 0, 0, 3, 8, 12, 18])
        self.assertEqual(last(of(0, [-1, 1]), times(1, 0, 0)), [1, -1, 1, 2, 1, 0, 2, -1, 1])

    def test_more_than_six_products_are_many(self):
        made = (of(0, [1, 10, 100]), of(1, [1, 4, 7]))
        self.assertEqual(run(*made, times(2, 0, 1), count(2))[2:], [[1, 1, 700, 3, 1, 0, 0], [234]])

    def test_0_is_there_if_one_has_it(self):
        made = of(0, [-3, -2, 2, 3])
        self.assertEqual(last(made, of(1, [5, 7]), times(2, 0, 1)), [1, -21, 21, 1, 0, 0, 0])
        self.assertEqual(last(made, of(1, [0, 5]), times(2, 0, 1)), [1, -15, 15, 5, 0, 1, 5, -15, -10, 0, 10, 15])
        self.assertEqual(last(made, of(1, [0, 5, 7]), times(2, 0, 1)), [1, -21, 21, 1, 0, 1, 0])


class By0(unittest.TestCase):
    zero = [1, 0, 0, 0, 0, 1, 1, 0]

    def test_0_alone(self):
        for made in (of(1, [0]), of(1, [4, 9]), of(1, [-BOUND, BOUND]), parts(1, 2, 99, 1, 0, 1),
                     parts(1, -BOUND, BOUND, 1, 0, 0), parts(1, 999000, BOUND, 1, 0, 0)):
            self.assertEqual(last(of(0, [0]), made, times(2, 0, 1)), self.zero)
            self.assertEqual(last(of(0, [0]), made, times(2, 1, 0)), self.zero)

    def test_none_by_0_is_none(self):
        self.assertEqual(run(of(0, [0]), of(2, [4]), times(2, 0, 1), told(2))[2:], [[0], [0]])
        self.assertEqual(run(of(0, [0]), of(2, [4]), times(2, 1, 0), told(2))[2:], [[0], [0]])

    def test_0_among_others(self):
        made = (of(0, [0, 3]), parts(1, 2, 42, 5, 2, 1))
        self.assertEqual(last(*made, times(2, 0, 1)), [1, 0, 126, 3, 0, 1, 0])
        self.assertEqual(last(of(0, [0, BOUND]), parts(1, 2, 42, 5, 2, 1), times(2, 0, 1)), self.zero)

    def test_0_of_the_one_that_is_many(self):
        made = (of(0, [-4, 6]), parts(1, -5, 5, 1, 0, 1))
        self.assertEqual(run(*made, times(2, 0, 1), has(2, 0))[2:], [[1, -30, 30, 2, 0, 1, 0], [1]])
        made = (of(0, [-4, 6]), parts(1, -5, 5, 1, 0, 0))
        self.assertEqual(run(*made, times(2, 0, 1), has(2, 0))[2:], [[1, -30, 30, 2, 0, 0, 0], [0]])


class OfFewAndMany(unittest.TestCase):
    def test_as_it_stands_in_the_document(self):
        made = (of(0, [3, 7, 11]), parts(1, -5, 50, 3, 1, 1))
        self.assertEqual(last(*made, times(3, 1, 0)), [1, -55, 539, 1, 0, 0, 0])
        self.assertEqual(last(*made, times(3, 0, 1)), [1, -55, 539, 1, 0, 0, 0])

    def test_by_1_and_by_a_number_below_0(self):
        many = parts(1, -5, 50, 3, 1, 1)
        self.assertEqual(last(of(0, [1]), many, times(2, 0, 1)), [1, -5, 49, 3, 1, 0, 0])
        self.assertEqual(last(of(0, [-1]), many, times(2, 0, 1)), [1, -49, 5, 3, 2, 0, 0])
        self.assertEqual(last(of(0, [-4]), many, times(2, 0, 1)), [1, -196, 20, 12, 8, 0, 0])
        self.assertEqual(last(of(0, [-4, 2]), many, times(2, 0, 1)), [1, -196, 98, 6, 2, 0, 0])

    def test_the_distances_of_all_products(self):
        made = (of(0, [4, 10]), parts(1, 6, 96, 9, 6, 1))
        self.assertEqual(last(*made, times(2, 0, 1)), [1, 24, 960, 18, 6, 0, 0])


class BeyondTheBound(unittest.TestCase):
    def test_many_are_left(self):
        many = parts(1, -300, 300, 1, 0, 1)
        given = run(of(0, [5000]), many, times(2, 0, 1), count(2))
        self.assertEqual(given[2:], [[1, -BOUND, BOUND, 5000, 0, 1, 0], [401]])
        self.assertEqual(last(of(0, [-5000]), many, times(2, 0, 1)), [1, -BOUND, BOUND, 5000, 0, 1, 0])
        self.assertEqual(last(of(0, [5001]), many, times(2, 0, 1)), [1, -995199, 995199, 5001, 0, 1, 0])

    def test_on_one_side_only(self):
        above = parts(1, -9, 300, 1, 0, 1)
        below = parts(1, -300, 9, 1, 0, 1)
        self.assertEqual(last(of(0, [5000]), above, times(2, 0, 1)), [1, -45000, BOUND, 5000, 0, 1, 0])
        self.assertEqual(last(of(0, [-5000]), above, times(2, 0, 1)), [1, -BOUND, 45000, 5000, 0, 1, 0])
        self.assertEqual(last(of(0, [5000]), below, times(2, 0, 1)), [1, -BOUND, 45000, 5000, 0, 1, 0])
        self.assertEqual(last(of(0, [-5000]), below, times(2, 0, 1)), [1, -45000, BOUND, 5000, 0, 1, 0])

    def test_few_are_left(self):
        many = parts(1, -300, 300, 1, 0, 0)
        self.assertEqual(
            last(of(0, [300000]), many, times(2, 0, 1)),
            [1, -900000, 900000, 300000, 0, 0, 6, -900000, -600000, -300000, 300000, 600000, 900000])
        self.assertEqual(
            last(of(0, [500000]), many, times(2, 0, 1)),
            [1, -BOUND, BOUND, 500000, 0, 0, 4, -BOUND, -500000, 500000, BOUND])

    def test_one_is_left(self):
        many = parts(1, 1, 300, 1, 0, 1)
        self.assertEqual(last(of(0, [BOUND]), many, times(2, 0, 1)), [1, BOUND, BOUND, 0, BOUND, 0, 1, BOUND])
        self.assertEqual(last(of(0, [-BOUND]), many, times(2, 0, 1)), [1, -BOUND, -BOUND, 0, -BOUND, 0, 1, -BOUND])
        self.assertEqual(last(of(0, [BOUND]), parts(1, -9, 9, 3, 0, 1), times(2, 0, 1)), [1, 0, 0, 0, 0, 1, 1, 0])

    def test_none_is_left(self):
        made = (of(2, [1]), of(0, [BOUND]), parts(1, 2, 300, 1, 0, 1))
        self.assertEqual(run(*made, times(2, 0, 1), told(2))[3:], [[0], [0]])
        self.assertEqual(last(of(0, [1001]), parts(1, 1000, 3000, 1, 0, 1), times(2, 0, 1)), [0])
        self.assertEqual(last(of(0, [1001]), of(1, [-1000]), times(2, 0, 1)), [0])
        self.assertEqual(last(parts(0, 1000, 3000, 1, 0, 1), parts(1, 1001, 3000, 1, 0, 1), times(2, 0, 1)), [0])

    def test_just_within_the_bound(self):
        shown = [1, BOUND, BOUND, 0, BOUND, 0, 1, BOUND]
        self.assertEqual(last(of(0, [1000]), times(1, 0, 0)), shown)
        self.assertEqual(last(of(0, [1000]), parts(1, 1000, 3000, 1, 0, 1), times(2, 0, 1)), shown)
        self.assertEqual(last(parts(0, 1000, 3000, 1, 0, 1), times(1, 0, 0)), shown)

    def test_of_some_products_only_some_are_left(self):
        made = (of(0, [2, 3, 400000]), parts(1, 4, 64, 6, 4, 1))
        self.assertEqual(last(*made, times(2, 0, 1)), [1, 8, 192, 2, 0, 0, 0])

    def test_the_widest(self):
        many = parts(1, -BOUND, BOUND, 1, 0, 1)
        self.assertEqual(last(of(0, [-7, 5]), many, times(2, 0, 1)), [1, -BOUND, BOUND, 1, 0, 1, 0])
        self.assertEqual(last(of(0, [-14]), many, times(2, 0, 1)), [1, -999992, 999992, 14, 0, 1, 0])
        self.assertEqual(last(many, times(2, 1, 1)), [1, -BOUND, BOUND, 1, 0, 1, 0])


class OfTwoMany(unittest.TestCase):
    def test_distances_and_remainders(self):
        made = (parts(0, 4, 64, 6, 4, 1), parts(1, 6, 156, 15, 6, 1))
        # 6 * 15, 6 * 6 and 15 * 4 are all divided by 6; 4 * 6 leaves 0.
        self.assertEqual(last(*made, times(2, 0, 1)), [1, 24, 9984, 6, 0, 0, 0])
        made = (parts(0, 1, 91, 9, 1, 1), parts(1, 2, 92, 9, 2, 1))
        self.assertEqual(last(*made, times(2, 0, 1)), [1, 2, 8372, 9, 2, 0, 0])
        made = (parts(0, 0, 90, 9, 0, 1), parts(1, 2, 92, 9, 2, 1))
        self.assertEqual(last(*made, times(2, 0, 1)), [1, 0, 8280, 9, 0, 1, 0])
        made = (parts(0, 0, 90, 9, 0, 1), parts(1, 0, 80, 8, 0, 1))
        self.assertEqual(last(*made, times(2, 0, 1)), [1, 0, 7200, 72, 0, 1, 0])

    def test_0_in_one_in_both_and_in_neither(self):
        for z, other_z in ((0, 0), (0, 1), (1, 0), (1, 1)):
            made = (parts(0, -20, 20, 2, 0, z), parts(1, -30, 60, 3, 0, other_z))
            either = max(z, other_z)
            self.assertEqual(run(*made, times(2, 0, 1), has(2, 0))[2:], [[1, -1200, 1200, 6, 0, either, 0], [either]])

    def test_0_left_out_at_an_end(self):
        # 2 by 2 and 3 by 3 tell of products that 6 divides: 0 would be the next one below 6, but it is none.
        made = (parts(0, 2, 20, 2, 0, 1), parts(1, 3, 30, 3, 0, 1))
        self.assertEqual(last(*made, times(2, 0, 1)), [1, 6, 600, 6, 0, 0, 0])

    def test_all_four_corners(self):
        below = (-30, -5)
        above = (4, 40)
        across = (-30, 40)
        for ends, other_ends, shown in (
                (above, above, (16, 1600)), (below, below, (25, 900)), (above, below, (-1200, -20)),
                (across, above, (-1200, 1600)), (below, across, (-1200, 900)), (across, across, (-1200, 1600))):
            made = (parts(0, *ends, 1, 0, 1), parts(1, *other_ends, 1, 0, 1))
            for call in (times(2, 0, 1), times(2, 1, 0)):
                zero = 1 if across in (ends, other_ends) else 0
                self.assertEqual(last(*made, call), [1, *shown, 1, 0, zero, 0])

    def test_what_is_left_within_the_bound_is_few(self):
        made = (parts(0, 600, 6000, 600, 0, 1), parts(1, 500, 5000, 500, 0, 1))
        self.assertEqual(
            last(*made, times(2, 0, 1)), [1, 300000, 900000, 300000, 0, 0, 3, 300000, 600000, 900000])


class SlotsTwice(Compared):
    def test_a_slot_with_itself(self):
        for filling in SMALL + WIDE:
            self.assert_as_plain(fill(0, filling), ("times", 1, 0, 0), ("times", 0, 0, 0), ("told", 0))

    def test_new_is_a_or_b(self):
        for filling in (NONE[0], FEW[7], MANY[0]):
            for other in (NONE[0], FEW[8], MANY[3]):
                for new in (0, 1):
                    self.assert_as_plain(
                        fill(0, filling), fill(1, other), ("times", new, 0, 1), ("told", 0), ("told", 1))


class AgainstPlainSets(Compared):
    def test_all_pairs(self):
        self.assert_pairs_as_plain(SMALL, SMALL, *TIMES)

    def test_all_pairs_at_the_bound(self):
        self.assert_pairs_as_plain(WIDE, WIDE, *TIMES)

    def test_small_factors_to_the_bound(self):
        factors = ([-1], [2], [-5, 3], [0, 10], [4, 5, 6], [-30, -20])
        self.assert_pairs_as_plain(factors, WIDE_FEW + WIDE_MANY, *TIMES)
        self.assert_pairs_as_plain(WIDE_FEW + WIDE_MANY, factors, *TIMES)

    def test_drawn_pairs(self):
        chance = random.Random(6)
        for trial in range(1200):
            self.assert_as_plain(fill(0, drawn_small(chance)), fill(1, drawn_small(chance)), *TIMES)

    def test_drawn_factors_to_the_bound(self):
        chance = random.Random(7)
        for trial in range(600):
            scale = chance.choice((1, 1000, 10000))
            few = [chance.randint(-40, 40) * scale for turn in range(chance.randint(1, 3))]
            many = drawn_wide(chance) if trial % 2 else drawn_small(chance)
            self.assert_as_plain(fill(0, few), fill(1, many), *TIMES)


if __name__ == "__main__":
    unittest.main()
