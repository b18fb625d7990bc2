"""Refusals: which call refuses what, in which order, and that nothing is changed by them."""

import unittest

from tests.helper import BOUND, FAR, NOT_SLOTS, REFUSED_SLOT, count, first, has, join, last, meet, of, parts, run, told

KEPT = [of(slot, [slot, slot + 10]) for slot in range(5)] + [parts(5, -70, 70, 7, 3, 1)]
SHOWN = [told(slot) for slot in range(6)]
BEYOND = (BOUND + 1, -BOUND - 1, FAR, -FAR)


class Refusals(unittest.TestCase):
    def assert_refused(self, call, number):
        """The call answers the number alone, and every slot is told as it was before it."""
        before = run(*KEPT, *SHOWN)[len(KEPT):]
        given = run(*KEPT, call, *SHOWN)
        self.assertEqual(given[len(KEPT)], [number], call)
        self.assertEqual(given[len(KEPT) + 1:], before, call)


class Slots(Refusals):
    """Point 1."""

    def test_each_slot_of_each_call(self):
        for wrong in NOT_SLOTS:
            for call in (
                    of(wrong, [1]), parts(wrong, 0, 9, 1, 0, 1), told(wrong), has(wrong, 1), count(wrong),
                    first(wrong, 1), join(wrong, 0, 1), join(0, wrong, 1), join(0, 1, wrong),
                    meet(wrong, 0, 1), meet(0, wrong, 1), meet(0, 1, wrong), join(wrong, wrong, wrong)):
                with self.subTest(call=call):
                    self.assert_refused(call, -2)

    def test_no_slot_that_is_there_is_refused(self):
        for slot in range(6):
            for call in (
                    of(slot, [1]), parts(slot, 0, 9, 1, 0, 1), told(slot), has(slot, 1), count(slot),
                    first(slot, 1), join(slot, slot, slot), meet(slot, slot, slot)):
                with self.subTest(call=call):
                    self.assertGreaterEqual(last(call)[0], 0)

    def test_is_refused_ahead_of_all_else(self):
        for wrong in NOT_SLOTS:
            for call in (of(wrong, [1] * 41), of(wrong, [FAR]), parts(wrong, FAR, 9, 0, FAR, 2), first(wrong, 51)):
                with self.subTest(call=call):
                    self.assertEqual(last(call), REFUSED_SLOT)


class Of(Refusals):
    """Point 2."""

    def test_more_than_forty_numbers(self):
        for length in (41, 42, 60):
            self.assert_refused(of(0, list(range(length))), -1)
            self.assert_refused(of(0, [5] * length), -1)

    def test_a_number_beyond_the_bound(self):
        for number in BEYOND:
            self.assert_refused(of(0, [number]), -1)
            self.assert_refused(of(0, [1, 2, number]), -1)
            self.assert_refused(of(0, list(range(39)) + [number]), -1)
            self.assert_refused(of(0, [number] + list(range(39))), -1)


class Parts(Refusals):
    """Point 3."""

    def test_lo_hi_or_r_beyond_the_bound(self):
        for number in BEYOND:
            self.assert_refused(parts(0, number, 9, 1, 0, 1), -1)
            self.assert_refused(parts(0, 0, number, 1, 0, 1), -1)
            self.assert_refused(parts(0, 0, 9, 1, number, 1), -1)

    def test_m_not_from_1_to_1000000(self):
        for m in (0, -1, BOUND + 1, FAR, -FAR):
            self.assert_refused(parts(0, 0, 9, m, 0, 1), -1)

    def test_z_not_0_or_1(self):
        for z in (-1, 2, FAR, -FAR):
            self.assert_refused(parts(0, 0, 9, 1, 0, z), -1)

    def test_refused_though_none_would_be_made(self):
        self.assert_refused(parts(0, 9, 0, 0, 0, 1), -1)
        self.assert_refused(parts(0, 9, 0, 1, 0, 2), -1)


class First(Refusals):
    """Point 4."""

    def test_n_not_from_0_to_50(self):
        for n in (-1, 51, FAR, -FAR):
            for slot in (0, 5):
                self.assert_refused(first(slot, n), -4)

    def test_of_none_too(self):
        self.assertEqual(run(first(0, 51), first(0, -1)), [[-4], [-4]])


class BehindARefusal(unittest.TestCase):
    def test_what_was_none_stays_none(self):
        self.assertEqual(last(of(2, [1] * 41), told(2)), [0])
        self.assertEqual(last(parts(2, 0, 9, 0, 0, 1), told(2)), [0])
        self.assertEqual(last(join(2, 0, 6), told(2)), [0])

    def test_the_next_calls_go_on(self):
        self.assertEqual(run(of(6, [1, 2, 3]), of(0, [2] * 60), of(0, [4]))[1:], [[-1], [1, 4, 4, 0, 4, 0, 1, 4]])


if __name__ == "__main__":
    unittest.main()
