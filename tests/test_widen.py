"""widen."""

import random
import unittest

from tests.compared import SMALL, WIDE, Compared, drawn_small, fill
from tests.helper import BOUND, last, of, parts, plus, run, told, widen

MANY = parts(0, -10, 10, 1, 0, 1)
MANY_TOLD = [1, -10, 10, 1, 0, 1, 0]


class WithNone(unittest.TestCase):
    def test_the_other_one(self):
        for made, shown in ((of(0, [3, 5]), [1, 3, 5, 2, 1, 0, 2, 3, 5]), (MANY, MANY_TOLD), (of(0, []), [0])):
            for thresholds in ([], [-50, 50]):
                given = run(made, widen(2, 0, 1, thresholds), widen(3, 1, 0, thresholds), told(2), told(3))
                self.assertEqual(given[1:], [shown] * 4)


class AllNumbersAreThere(unittest.TestCase):
    def test_a_stays(self):
        for made in (of(1, [-10, 10]), of(1, [3]), parts(1, -9, 9, 2, 1, 1), parts(1, -10, 10, 1, 0, 1)):
            self.assertEqual(last(MANY, made, widen(2, 0, 1, [-20, -5, 5, 20])), MANY_TOLD)
        self.assertEqual(last(of(0, [1, 2, 3]), of(1, [3]), widen(2, 0, 1, [-9, 9])), [1, 1, 3, 1, 0, 0, 3, 1, 2, 3])


class TheJoinIsFew(unittest.TestCase):
    def test_is_the_join(self):
        made = (of(0, [1, 5]), of(1, [-7, 9]))
        self.assertEqual(last(*made, widen(2, 0, 1, [-20, 20])), [1, -7, 9, 4, 1, 0, 4, -7, 1, 5, 9])
        made = (of(0, [1, 2, 3]), of(1, [4, 5, 6]))
        self.assertEqual(last(*made, widen(2, 0, 1, [20])), [1, 1, 6, 1, 0, 0, 6, 1, 2, 3, 4, 5, 6])

    def test_seven_are_widened(self):
        made = (of(0, [1, 2, 3]), of(1, [4, 5, 6, 7]))
        self.assertEqual(last(*made, widen(2, 0, 1, [20])), [1, 1, 20, 1, 0, 0, 0])


class WhichEndMoves(unittest.TestCase):
    def test_the_least_one(self):
        self.assertEqual(last(MANY, of(1, [-13]), widen(2, 0, 1, [-50, 50])), [1, -50, 10, 1, 0, 1, 0])
        self.assertEqual(last(MANY, of(1, [-13]), widen(2, 0, 1, [])), [1, -BOUND, 10, 1, 0, 1, 0])

    def test_the_greatest_one(self):
        self.assertEqual(last(MANY, of(1, [13]), widen(2, 0, 1, [-50, 50])), [1, -10, 50, 1, 0, 1, 0])
        self.assertEqual(last(MANY, of(1, [13]), widen(2, 0, 1, [])), [1, -10, BOUND, 1, 0, 1, 0])

    def test_both(self):
        self.assertEqual(last(MANY, of(1, [-13, 13]), widen(2, 0, 1, [-50, 50])), [1, -50, 50, 1, 0, 1, 0])
        self.assertEqual(last(MANY, of(1, [-13, 13]), widen(2, 0, 1, [])), [1, -BOUND, BOUND, 1, 0, 1, 0])

    def test_neither(self):
        made = parts(0, -10, 10, 2, 0, 1)
        self.assertEqual(last(made, of(1, [3]), widen(2, 0, 1, [-50, 50])), MANY_TOLD)
        made = parts(0, -10, 10, 1, 0, 0)
        self.assertEqual(last(made, of(1, [0]), widen(2, 0, 1, [-50, 50])), MANY_TOLD)

    def test_only_a_is_looked_at(self):
        # a and b the other way round: here it is a that has the outer numbers, and no end moves.
        self.assertEqual(last(MANY, of(1, [-13, 13]), widen(2, 1, 0, [-50, 50])), [1, -13, 13, 1, 0, 1, 0])
        self.assertEqual(last(MANY, parts(1, 0, 20, 1, 0, 1), widen(2, 1, 0, [-50, 50])), [1, -50, 20, 1, 0, 1, 0])

    def test_at_the_bound_already(self):
        made = parts(0, -BOUND, 10, 1, 0, 1)
        self.assertEqual(last(made, of(1, [BOUND]), widen(2, 0, 1, [])), [1, -BOUND, BOUND, 1, 0, 1, 0])
        self.assertEqual(last(made, of(1, [BOUND]), widen(2, 0, 1, [BOUND, -BOUND])), [1, -BOUND, BOUND, 1, 0, 1, 0])


class Thresholds(unittest.TestCase):
    def widened(self, number, thresholds):
        return last(MANY, of(1, [number]), widen(2, 0, 1, thresholds))[1:3]

    def test_just_at_above_and_below(self):
        self.assertEqual(self.widened(13, [13]), [-10, 13])
        self.assertEqual(self.widened(13, [14]), [-10, 14])
        self.assertEqual(self.widened(13, [12]), [-10, BOUND])
        self.assertEqual(self.widened(-13, [-13]), [-13, 10])
        self.assertEqual(self.widened(-13, [-14]), [-14, 10])
        self.assertEqual(self.widened(-13, [-12]), [-BOUND, 10])

    def test_the_nearest_that_serves(self):
        self.assertEqual(self.widened(13, [12, 14, 15, 900]), [-10, 14])
        self.assertEqual(self.widened(-13, [-900, -15, -14, -12]), [-14, 10])

    def test_in_any_order_and_twice(self):
        for thresholds in ([900, 14, 0, 15, 12], [14, 14, 900, 900], [12, 900, 14, -3, 14, 900]):
            self.assertEqual(self.widened(13, thresholds), [-10, 14])
            self.assertEqual(self.widened(-13, [-threshold for threshold in thresholds]), [-14, 10])

    def test_none_that_serves(self):
        self.assertEqual(self.widened(13, [-900, -13, 0, 12]), [-10, BOUND])
        self.assertEqual(self.widened(-13, [900, 13, 0, -12]), [-BOUND, 10])

    def test_at_the_bound(self):
        self.assertEqual(self.widened(13, [BOUND]), [-10, BOUND])
        self.assertEqual(self.widened(13, [-BOUND]), [-10, BOUND])
        self.assertEqual(self.widened(-13, [-BOUND]), [-BOUND, 10])
        self.assertEqual(self.widened(-13, [BOUND]), [-BOUND, 10])

    def test_eight(self):
        self.assertEqual(self.widened(13, [20, 19, 18, 17, 16, 15, 14, 13]), [-10, 13])
        self.assertEqual(self.widened(13, [13, 14, 15, 16, 17, 18, 19, 20]), [-10, 13])


class WhatIsMade(unittest.TestCase):
    def test_a_threshold_need_not_be_a_number_of_it(self):
        made = (parts(0, 3, 53, 5, 3, 1), of(1, [-2, 58]))
        self.assertEqual(last(*made, widen(2, 0, 1, [-10, 70])), [1, -7, 68, 5, 3, 0, 0])
        self.assertEqual(last(*made, widen(2, 0, 1, [])), [1, -999997, 999998, 5, 3, 0, 0])

    def test_the_joins_distance_and_remainder(self):
        made = (parts(0, 3, 53, 5, 3, 1), of(1, [68, 83]))
        self.assertEqual(last(*made, widen(2, 0, 1, [100])), [1, 3, 98, 5, 3, 0, 0])
        made = (parts(0, 4, 64, 6, 4, 1), of(1, [79]))
        self.assertEqual(last(*made, widen(2, 0, 1, [100])), [1, 4, 100, 3, 1, 0, 0])

    def test_0_is_left_out_if_the_join_has_it_not(self):
        made = (parts(0, 5, 50, 5, 0, 1), of(1, [55]))
        self.assertEqual(last(*made, widen(2, 0, 1, [])), [1, 5, BOUND, 5, 0, 0, 0])
        made = (parts(0, 10, 50, 5, 0, 1), of(1, [5]))
        self.assertEqual(last(*made, widen(2, 0, 1, [-20])), [1, -20, 50, 5, 0, 0, 0])
        self.assertEqual(last(*made, widen(2, 0, 1, [0])), [1, 5, 50, 5, 0, 0, 0])
        made = (parts(0, 10, 50, 5, 0, 1), of(1, [0]))
        self.assertEqual(last(*made, widen(2, 0, 1, [-20])), [1, -20, 50, 5, 0, 1, 0])


class ComesToAnEnd(unittest.TestCase):
    def test_round_by_round(self):
        """A number from 0 on that grows by 3 each round: widened up to the threshold, then up to the bound."""
        round_of_calls = (plus(2, 0, 1), widen(0, 0, 2, [100]))
        given = run(of(0, [0]), of(1, [3]), *(round_of_calls * 10))
        kept = given[3::2]
        self.assertEqual(kept[0], [1, 0, 3, 3, 0, 1, 2, 0, 3])
        self.assertEqual(kept[5], [1, 0, 99, 3, 0, 1, 0])
        self.assertEqual(kept[6:], [[1, 0, 999999, 3, 0, 1, 0]] * 4)


class SlotsTwice(Compared):
    def test_new_is_a_or_b(self):
        for new in (0, 1):
            self.assert_as_plain(
                fill(0, (-10, 10, 1, 0, 1)), fill(1, [30]), ("widen", new, 0, 1, [40, 50]), ("told", 0), ("told", 1))

    def test_a_slot_with_itself(self):
        for filling in SMALL + WIDE:
            self.assert_as_plain(fill(0, filling), ("widen", 1, 0, 0, [-5, 5]), ("widen", 0, 0, 0, []), ("told", 0))


class AgainstPlainSets(Compared):
    def test_all_pairs(self):
        near = (-99, -61, -60, 0, 9, 10, 50, 99)
        self.assert_pairs_as_plain(SMALL, SMALL, ("widen", 2, 0, 1, near), ("told", 0), ("told", 1))

    def test_all_pairs_at_the_bound(self):
        calls = [("widen", 2, 0, 1, thresholds) for thresholds in ([], [BOUND, -BOUND], [0, 800000, -800000])]
        self.assert_pairs_as_plain(WIDE, WIDE, *calls)

    def test_drawn_pairs(self):
        chance = random.Random(9)
        for trial in range(1500):
            thresholds = [chance.randint(-150, 150) for turn in range(chance.randint(0, 6))] + [-400, 400]
            chance.shuffle(thresholds)
            self.assert_as_plain(
                fill(0, drawn_small(chance)), fill(1, drawn_small(chance)), ("widen", 2, 0, 1, thresholds), ("told", 2))


if __name__ == "__main__":
    unittest.main()
