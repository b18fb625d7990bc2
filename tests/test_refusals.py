"""Refusals: which call refuses what, in which order, and that nothing is changed by them."""

import unittest

from tests.helper import (
    BOUND, FAR, NOT_SLOTS, REFUSED_SLOT, count, first, has, join, last, meet, minus, of, parts, plus, rem, run, test,
    times, told, verdict, widen, within)

KEPT = [of(slot, [slot, slot + 10]) for slot in range(5)] + [parts(5, -70, 70, 7, 3, 1)]
SHOWN = [told(slot) for slot in range(6)]
BEYOND = (BOUND + 1, -BOUND - 1, FAR, -FAR)
NOT_TESTS = (-1, 4, FAR, -FAR)


def widen_bare(new, a, b):
    return widen(new, a, b, [])


def with_each_slot_wrong(wrong):
    """Every call, once for each of its slots, which is wrong there; and calls all of whose slots are."""
    calls = [
        of(wrong, [1]), parts(wrong, 0, 9, 1, 0, 1), told(wrong), has(wrong, 1), count(wrong), first(wrong, 1),
        within(wrong, 1), within(1, wrong), rem(wrong, 1, 7), rem(1, wrong, 7), rem(wrong, wrong, 7)]
    for of_three in (join, meet, widen_bare, plus, minus, times):
        calls += [of_three(wrong, 0, 1), of_three(0, wrong, 1), of_three(0, 1, wrong), of_three(wrong, wrong, wrong)]
    for which in range(4):
        calls += [
            test(which, wrong, 1, 2, 3), test(which, 1, wrong, 2, 3), test(which, 1, 2, wrong, 3),
            test(which, 1, 2, 3, wrong), test(which, wrong, wrong, wrong, wrong), verdict(which, wrong, 1),
            verdict(which, 1, wrong), verdict(which, wrong, wrong)]
    return calls


class Refusals(unittest.TestCase):
    def assert_refused(self, call, number):
        """The call answers the number alone, and every slot is told as it was before it."""
        before = run(*KEPT, *SHOWN)[len(KEPT):]
        given = run(*KEPT, call, *SHOWN)
        self.assertEqual(given[len(KEPT)], [number], call)
        self.assertEqual(given[len(KEPT) + 1:], before, call)


class Slots(Refusals):
    """Point 1."""

    def test_each_slot_of_each_call(self):
        for wrong in NOT_SLOTS:
            for call in with_each_slot_wrong(wrong):
                with self.subTest(call=call):
                    self.assert_refused(call, -2)

    def test_no_slot_that_is_there_is_refused(self):
        for slot in range(6):
            for call in (
                    of(slot, [1]), parts(slot, 0, 9, 1, 0, 1), told(slot), has(slot, 1), count(slot),
                    first(slot, 1), join(slot, slot, slot), meet(slot, slot, slot), widen(slot, slot, slot, []),
                    within(slot, slot), plus(slot, slot, slot), minus(slot, slot, slot), times(slot, slot, slot),
                    rem(slot, slot, 7), test(0, slot, (slot + 1) % 6, slot, slot), verdict(3, slot, slot)):
                with self.subTest(call=call):
                    self.assertGreaterEqual(last(call)[0], 0)

    def test_is_refused_ahead_of_all_else(self):
        for wrong in NOT_SLOTS:
            for call in (
                    of(wrong, [1] * 41), of(wrong, [FAR]), parts(wrong, FAR, 9, 0, FAR, 2), first(wrong, 51),
                    widen(wrong, 0, 1, [0] * 9), widen(0, wrong, 1, [FAR]), widen(0, 1, wrong, [0] * 20),
                    rem(wrong, 1, 0), rem(1, wrong, 100), rem(1, wrong, -FAR)):
                with self.subTest(call=call):
                    self.assertEqual(last(call), REFUSED_SLOT)

    def test_new_twice(self):
        for slot in range(6):
            for which in range(4):
                self.assert_refused(test(which, slot, slot, 0, 1), -2)
                self.assert_refused(test(which, slot, slot, slot, slot), -2)

    def test_new_twice_of_none_too(self):
        self.assertEqual(run(test(0, 2, 2, 0, 1), test(2, 0, 0, 0, 0)), [[-2], [-2]])

    def test_a_and_b_may_be_the_same(self):
        self.assertEqual(last(of(0, [4]), test(2, 1, 2, 0, 0)), [1, 4, 4, 0, 4, 0, 1, 4] * 2)


class Tests(Refusals):
    """Point 1: the test ahead of the slots."""

    def test_not_from_0_to_3(self):
        for which in NOT_TESTS:
            self.assert_refused(test(which, 2, 3, 0, 1), -3)
            self.assert_refused(verdict(which, 0, 1), -3)

    def test_beside_a_slot_that_is_not_there(self):
        for which in NOT_TESTS:
            for wrong in NOT_SLOTS:
                for call in (
                        test(which, wrong, 3, 0, 1), test(which, 2, wrong, 0, 1), test(which, 2, 3, wrong, 1),
                        test(which, 2, 3, 0, wrong), test(which, wrong, wrong, wrong, wrong),
                        verdict(which, wrong, 1), verdict(which, 0, wrong), verdict(which, wrong, wrong)):
                    self.assert_refused(call, -3)

    def test_beside_new_twice(self):
        for which in NOT_TESTS:
            self.assert_refused(test(which, 2, 2, 0, 1), -3)

    def test_of_none_too(self):
        self.assertEqual(run(test(4, 2, 3, 0, 1), verdict(-1, 0, 1)), [[-3], [-3]])


class Of(Refusals):
    """Point 2."""

    def test_more_than_forty_numbers(self):
        for length in (41, 42, 60):
            self.assert_refused(of(0, list(range(length))), -1)
            self.assert_refused(of(0, [5] * length), -1)

    def test_a_number_beyond_the_bound(self):
        for number in BEYOND:
            self.assert_refused(of(0, [number]), -1)
            self.assert_refused(of(0, [1, 2, number]), -1)
            self.assert_refused(of(0, list(range(39)) + [number]), -1)
            self.assert_refused(of(0, [number] + list(range(39))), -1)


class Parts(Refusals):
    """Point 3."""

    def test_lo_hi_or_r_beyond_the_bound(self):
        for number in BEYOND:
            self.assert_refused(parts(0, number, 9, 1, 0, 1), -1)
            self.assert_refused(parts(0, 0, number, 1, 0, 1), -1)
            self.assert_refused(parts(0, 0, 9, 1, number, 1), -1)

    def test_m_not_from_1_to_1000000(self):
        for m in (0, -1, BOUND + 1, FAR, -FAR):
            self.assert_refused(parts(0, 0, 9, m, 0, 1), -1)

    def test_z_not_0_or_1(self):
        for z in (-1, 2, FAR, -FAR):
            self.assert_refused(parts(0, 0, 9, 1, 0, z), -1)

    def test_refused_though_none_would_be_made(self):
        self.assert_refused(parts(0, 9, 0, 0, 0, 1), -1)
        self.assert_refused(parts(0, 9, 0, 1, 0, 2), -1)


class First(Refusals):
    """Point 4."""

    def test_n_not_from_0_to_50(self):
        for n in (-1, 51, FAR, -FAR):
            for slot in (0, 5):
                self.assert_refused(first(slot, n), -4)

    def test_of_none_too(self):
        self.assertEqual(run(first(0, 51), first(0, -1)), [[-4], [-4]])


class Widen(Refusals):
    """Point 5."""

    def test_more_than_eight_thresholds(self):
        for length in (9, 10, 20):
            self.assert_refused(widen(0, 0, 5, list(range(length))), -1)
            self.assert_refused(widen(0, 0, 5, [5] * length), -1)

    def test_eight_are_not_refused(self):
        for length in range(9):
            self.assertEqual(last(*KEPT, widen(0, 0, 5, [-BOUND] * length))[0], 1)

    def test_a_threshold_beyond_the_bound(self):
        for number in BEYOND:
            self.assert_refused(widen(0, 0, 5, [number]), -1)
            self.assert_refused(widen(0, 0, 5, [1, 2, number]), -1)
            self.assert_refused(widen(0, 0, 5, [number, 1, 2, 3, 4, 5, 6, 7]), -1)

    def test_a_threshold_at_the_bound_is_not_refused(self):
        for number in (BOUND, -BOUND):
            self.assertEqual(last(*KEPT, widen(0, 0, 5, [number]))[0], 1)

    def test_refused_though_no_threshold_would_be_asked_for(self):
        self.assert_refused(widen(0, 1, 1, [0] * 9), -1)
        self.assert_refused(widen(0, 1, 2, [FAR]), -1)
        self.assertEqual(run(widen(0, 1, 2, [0] * 9), widen(0, 1, 2, [FAR])), [[-1], [-1]])


class Rem(Refusals):
    """Point 6."""

    def test_n_not_from_1_to_99(self):
        for n in (0, -1, 100, FAR, -FAR):
            for slot in (0, 5):
                self.assert_refused(rem(2, slot, n), -4)

    def test_n_at_its_ends_is_not_refused(self):
        for slot in (0, 5):
            self.assertEqual([last(*KEPT, rem(2, slot, n))[0] for n in (1, 99)], [1, 1])

    def test_of_none_too(self):
        self.assertEqual(run(rem(0, 1, 0), rem(0, 1, 100), rem(0, 1, 1), rem(0, 1, 99)), [[-4], [-4], [0], [0]])


class BehindARefusal(unittest.TestCase):
    def test_what_was_none_stays_none(self):
        self.assertEqual(last(of(2, [1] * 41), told(2)), [0])
        self.assertEqual(last(parts(2, 0, 9, 0, 0, 1), told(2)), [0])
        self.assertEqual(last(join(2, 0, 6), told(2)), [0])
        self.assertEqual(last(of(0, [1]), widen(2, 0, 0, [FAR]), told(2)), [0])
        self.assertEqual(last(of(0, [1]), rem(2, 0, 100), told(2)), [0])
        self.assertEqual(run(of(0, [1]), test(2, 2, 6, 0, 0), test(4, 2, 3, 0, 0), told(2), told(3))[3:], [[0], [0]])

    def test_the_next_calls_go_on(self):
        self.assertEqual(run(of(6, [1, 2, 3]), of(0, [2] * 60), of(0, [4]))[1:], [[-1], [1, 4, 4, 0, 4, 0, 1, 4]])
        self.assertEqual(
            run(widen(0, 0, 0, [2] * 20), test(4, 6, 6, 6, 6), verdict(4, 6, 6), of(0, [4])),
            [[-1], [-3], [-3], [1, 4, 4, 0, 4, 0, 1, 4]])


if __name__ == "__main__":
    unittest.main()
