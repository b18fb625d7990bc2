"""test and verdict."""

import random
import unittest

from tests.compared import FEW, MANY, NONE, SMALL, WIDE, Compared, drawn_small, drawn_wide, fill
from tests.helper import BOUND, last, of, parts, run, test, told, verdict

NEITHER = [0, 0]
ROW = parts(0, 1, 20, 1, 0, 1)
ROW_TOLD = [1, 1, 20, 1, 0, 0, 0]


def one(number):
    return [1, number, number, 0, number, 1 if number == 0 else 0, 1, number]


def row(least, greatest):
    return [1, least, greatest, 1, 0, 1 if least <= 0 <= greatest else 0, 0]


def left(which, made, other):
    return last(made, other, test(which, 2, 3, 0, 1))


def judged(which, made, other):
    return last(made, other, verdict(which, 0, 1))[0]


class Less(unittest.TestCase):
    def test_many(self):
        self.assertEqual(left(0, ROW, parts(1, -5, 12, 1, 0, 1)), row(1, 11) + row(2, 12))
        self.assertEqual(left(0, parts(0, -5, 12, 1, 0, 1), parts(1, 1, 20, 1, 0, 1)), row(-5, 12) + row(1, 20))

    def test_few(self):
        self.assertEqual(left(0, of(0, [3, 5]), of(1, [1, 5])), one(3) + one(5))
        self.assertEqual(left(0, of(0, [1, 9]), of(1, [1, 9])), one(1) + one(9))

    def test_as_it_stands_in_the_document(self):
        self.assertEqual(
            left(0, parts(0, -5, 50, 3, 1, 1), of(1, [3, 7, 11])),
            [1, -5, 10, 3, 1, 0, 6, -5, -2, 1, 4, 7, 10] + [1, 3, 11, 4, 3, 0, 3, 3, 7, 11])

    def test_the_greatest_one_itself_is_not_left(self):
        self.assertEqual(left(0, ROW, of(1, [20])), row(1, 19) + one(20))
        self.assertEqual(left(0, ROW, of(1, [21])), ROW_TOLD + one(21))
        self.assertEqual(left(0, ROW, of(1, [2])), one(1) + one(2))

    def test_nothing_is_left(self):
        self.assertEqual(left(0, ROW, of(1, [1])), NEITHER)
        self.assertEqual(left(0, of(0, [20]), parts(1, 1, 20, 1, 0, 1)), NEITHER)
        self.assertEqual(left(0, of(0, [4]), of(1, [4])), NEITHER)
        self.assertEqual(left(0, of(0, [BOUND]), parts(1, -BOUND, BOUND, 1, 0, 1)), NEITHER)
        self.assertEqual(left(0, parts(0, -BOUND, BOUND, 1, 0, 1), of(1, [-BOUND])), NEITHER)

    def test_verdicts(self):
        self.assertEqual(judged(0, ROW, of(1, [1])), 0)
        self.assertEqual(judged(0, ROW, of(1, [21])), 1)
        self.assertEqual(judged(0, ROW, of(1, [20])), 2)
        self.assertEqual(judged(0, ROW, of(1, [2])), 2)
        self.assertEqual(judged(0, of(0, [3, 4]), of(1, [4, 5])), 2)
        self.assertEqual(judged(0, of(0, [3, 4]), of(1, [5, 6])), 1)


class LessOrEqual(unittest.TestCase):
    def test_many(self):
        self.assertEqual(left(1, ROW, parts(1, -5, 12, 1, 0, 1)), row(1, 12) + row(1, 12))

    def test_few(self):
        self.assertEqual(left(1, of(0, [3, 5, 6]), of(1, [1, 5])), [1, 3, 5, 2, 1, 0, 2, 3, 5] + one(5))

    def test_the_greatest_one_itself_is_left(self):
        self.assertEqual(left(1, ROW, of(1, [20])), ROW_TOLD + one(20))
        self.assertEqual(left(1, ROW, of(1, [1])), one(1) + one(1))

    def test_nothing_is_left(self):
        self.assertEqual(left(1, ROW, of(1, [0])), NEITHER)
        self.assertEqual(left(1, of(0, [21]), parts(1, 1, 20, 1, 0, 1)), NEITHER)

    def test_verdicts(self):
        self.assertEqual(judged(1, ROW, of(1, [0])), 0)
        self.assertEqual(judged(1, ROW, of(1, [20])), 1)
        self.assertEqual(judged(1, ROW, of(1, [19])), 2)
        self.assertEqual(judged(1, ROW, of(1, [1])), 2)
        self.assertEqual(judged(1, of(0, [4]), of(1, [4])), 1)


class Equal(unittest.TestCase):
    def test_the_meet_twice(self):
        self.assertEqual(left(2, ROW, parts(1, -5, 12, 1, 0, 1)), row(1, 12) * 2)
        self.assertEqual(left(2, ROW, of(1, [0, 7, 30])), one(7) * 2)
        self.assertEqual(left(2, of(0, [4]), of(1, [4])), one(4) * 2)

    def test_nothing_is_left(self):
        self.assertEqual(left(2, ROW, of(1, [0, 21])), NEITHER)
        self.assertEqual(left(2, parts(0, 0, 90, 9, 1, 1), parts(1, 0, 90, 9, 2, 1)), NEITHER)

    def test_verdicts(self):
        self.assertEqual(judged(2, ROW, of(1, [0, 21])), 0)
        self.assertEqual(judged(2, of(0, [4]), of(1, [4])), 1)
        self.assertEqual(judged(2, of(0, [4, 5]), of(1, [4])), 2)
        self.assertEqual(judged(2, of(0, [4, 5]), of(1, [4, 5])), 2)
        self.assertEqual(judged(2, ROW, parts(1, 1, 20, 1, 0, 1)), 2)


class Unequal(unittest.TestCase):
    def test_0_is_taken_from_many(self):
        self.assertEqual(left(3, parts(0, -9, 9, 1, 0, 1), of(1, [0])), [1, -9, 9, 1, 0, 0, 0] + one(0))
        self.assertEqual(left(3, parts(0, -9, 9, 1, 0, 0), of(1, [0])), [1, -9, 9, 1, 0, 0, 0] + one(0))
        self.assertEqual(left(3, parts(0, 0, 90, 9, 0, 1), of(1, [0])), [1, 9, 90, 9, 0, 0, 0] + one(0))
        self.assertEqual(left(3, parts(0, -90, 0, 9, 0, 1), of(1, [0])), [1, -90, -9, 9, 0, 0, 0] + one(0))
        self.assertEqual(left(3, ROW, of(1, [0])), ROW_TOLD + one(0))

    def test_an_end_is_taken_from_many(self):
        self.assertEqual(left(3, ROW, of(1, [1])), row(2, 20) + one(1))
        self.assertEqual(left(3, ROW, of(1, [20])), row(1, 19) + one(20))
        self.assertEqual(left(3, parts(0, 5, 95, 10, 5, 1), of(1, [95])), [1, 5, 85, 10, 5, 0, 0] + one(95))

    def test_an_end_beside_0_left_out(self):
        self.assertEqual(left(3, parts(0, -1, 9, 1, 0, 0), of(1, [-1])), row(1, 9) + one(-1))
        self.assertEqual(left(3, parts(0, -9, 1, 1, 0, 0), of(1, [1])), row(-9, -1) + one(1))
        self.assertEqual(left(3, parts(0, -1, 9, 1, 0, 1), of(1, [-1])), row(0, 9) + one(-1))

    def test_what_is_left_is_few(self):
        shown = [1, 1, 6, 1, 0, 0, 6, 1, 2, 3, 4, 5, 6]
        self.assertEqual(left(3, parts(0, 1, 7, 1, 0, 1), of(1, [7])), shown + one(7))
        self.assertEqual(left(3, parts(0, 0, 6, 1, 0, 1), of(1, [0])), shown + one(0))

    def test_one_in_the_midst_of_many_stays(self):
        for number in (2, 10, 19):
            self.assertEqual(left(3, ROW, of(1, [number])), ROW_TOLD + one(number))

    def test_none_of_its_numbers(self):
        for number in (-1, 21, BOUND, -BOUND):
            self.assertEqual(left(3, ROW, of(1, [number])), ROW_TOLD + one(number))
        self.assertEqual(left(3, of(0, [3, 5]), of(1, [4])), [1, 3, 5, 2, 1, 0, 2, 3, 5] + one(4))

    def test_any_is_taken_from_few(self):
        self.assertEqual(left(3, of(0, [3, 5, 9]), of(1, [5])), [1, 3, 9, 6, 3, 0, 2, 3, 9] + one(5))
        self.assertEqual(left(3, of(0, [3, 5]), of(1, [5])), one(3) + one(5))
        self.assertEqual(left(3, of(0, [0, 5]), of(1, [0])), one(5) + one(0))

    def test_the_other_way_round(self):
        self.assertEqual(left(3, of(0, [20]), parts(1, 1, 20, 1, 0, 1)), one(20) + row(1, 19))
        self.assertEqual(left(3, of(0, [5]), of(1, [3, 5])), one(5) + one(3))

    def test_more_than_one_number_takes_nothing(self):
        shown = [1, 1, 20, 19, 1, 0, 2, 1, 20]
        self.assertEqual(left(3, ROW, of(1, [1, 20])), ROW_TOLD + shown)
        self.assertEqual(left(3, of(0, [1, 20]), of(1, [1, 20])), shown * 2)
        self.assertEqual(left(3, ROW, parts(1, 1, 20, 1, 0, 1)), ROW_TOLD * 2)

    def test_nothing_is_left(self):
        for number in (0, 5, BOUND, -BOUND):
            self.assertEqual(left(3, of(0, [number]), of(1, [number])), NEITHER)

    def test_verdicts(self):
        self.assertEqual(judged(3, of(0, [4]), of(1, [4])), 0)
        self.assertEqual(judged(3, of(0, [4]), of(1, [5])), 1)
        self.assertEqual(judged(3, ROW, of(1, [0, 21])), 1)
        self.assertEqual(judged(3, ROW, of(1, [7])), 2)
        self.assertEqual(judged(3, parts(0, 0, 90, 9, 1, 1), parts(1, 0, 90, 9, 2, 1)), 1)


class OfNone(unittest.TestCase):
    def test_none_is_left_and_never(self):
        for which in range(4):
            for filling in (of(0, []), of(0, [4]), of(0, [1, 2]), ROW):
                self.assertEqual(run(filling, test(which, 2, 3, 0, 1), test(which, 2, 3, 1, 0))[1:], [NEITHER] * 2)
                self.assertEqual(run(filling, verdict(which, 0, 1), verdict(which, 1, 0))[1:], [[0], [0]])

    def test_none_is_kept_in_both(self):
        for which in range(4):
            given = run(of(0, [4]), of(2, [1]), of(3, [1]), test(which, 2, 3, 0, 1), told(2), told(3))
            self.assertEqual(given[3:], [[0, 0], [0], [0]])


class WhatIsKept(Compared):
    slots = (("told", 0), ("told", 1), ("told", 2), ("told", 3))

    def test_in_slots_of_their_own(self):
        given = run(ROW, of(1, [20]), test(0, 4, 2, 0, 1), told(4), told(2), told(0), told(1))
        self.assertEqual(given[2:], [row(1, 19) + one(20), row(1, 19), one(20), ROW_TOLD, one(20)])

    def test_in_a_or_b(self):
        for filling in (NONE[0], FEW[8], MANY[0], MANY[3]):
            for other in (NONE[0], FEW[3], FEW[11], MANY[1]):
                for which in range(4):
                    for new, new_other in ((0, 1), (1, 0), (0, 2), (2, 0), (1, 2), (2, 1), (2, 3)):
                        self.assert_as_plain(
                            fill(0, filling), fill(1, other), ("test", which, new, new_other, 0, 1), *self.slots)

    def test_a_slot_with_itself(self):
        for filling in SMALL + WIDE:
            for which in range(4):
                self.assert_as_plain(
                    fill(0, filling), ("verdict", which, 0, 0), ("test", which, 1, 0, 0, 0), *self.slots)

    def test_a_verdict_changes_nothing(self):
        made = (ROW, of(1, [20]))
        for which in range(4):
            self.assertEqual(run(*made, verdict(which, 0, 1), told(0), told(1))[3:], run(*made))


class AgainstPlainSets(Compared):
    calls = [("verdict", which, 0, 1) for which in range(4)] + [("test", which, 2, 3, 0, 1) for which in range(4)]

    def test_all_pairs(self):
        self.assert_pairs_as_plain(SMALL, SMALL, *self.calls)

    def test_all_pairs_at_the_bound(self):
        self.assert_pairs_as_plain(WIDE, WIDE, *self.calls)

    def test_one_number_against_each_kind(self):
        ones = [[number] for number in range(-13, 14)]
        self.assert_pairs_as_plain(ones, SMALL, *self.calls)
        self.assert_pairs_as_plain(SMALL, ones, *self.calls)

    def test_drawn_pairs(self):
        chance = random.Random(11)
        for trial in range(1500):
            draw = drawn_wide if trial % 3 == 0 else drawn_small
            self.assert_as_plain(fill(0, draw(chance)), fill(1, draw(chance)), *self.calls)


if __name__ == "__main__":
    unittest.main()
