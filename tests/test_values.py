"""Values as of and parts make them, and as told, has, count and first show them."""

import random
import unittest

from knownof.value import made_of
from knownof.value import told as told_value
from tests.helper import BOUND, FAR, count, first, has, last, of, parts, run, told
from tests.plain import set_hull, set_made_of, set_told


class Of(unittest.TestCase):
    def test_no_number_is_none(self):
        self.assertEqual(run(of(0, [4]), of(0, []), told(0))[1:], [[0], [0]])

    def test_one_number(self):
        for n in (1, -1, 7, -7, BOUND, -BOUND):
            self.assertEqual(last(of(0, [n])), [1, n, n, 0, n, 0, 1, n])
        self.assertEqual(last(of(0, [0])), [1, 0, 0, 0, 0, 1, 1, 0])

    def test_six_numbers_are_few(self):
        self.assertEqual(last(of(0, [1, 2, 4, 8, 16, 32])), [1, 1, 32, 1, 0, 0, 6, 1, 2, 4, 8, 16, 32])
        self.assertEqual(last(of(0, [-9, -4, 1, 6, 11, 26])), [1, -9, 26, 5, 1, 0, 6, -9, -4, 1, 6, 11, 26])

    def test_seven_numbers_are_many(self):
        self.assertEqual(last(of(0, [1, 3, 5, 7, 9, 11, 13])), [1, 1, 13, 2, 1, 0, 0])
        self.assertEqual(run(of(0, [1, 3, 5, 7, 9, 11, 21]), count(0)), [[1, 1, 21, 2, 1, 0, 0], [11]])

    def test_the_hull_of_many_has_0_only_if_it_was_there(self):
        without = [-3, -2, -1, 1, 2, 3, 4]
        self.assertEqual(run(of(0, without), count(0), has(0, 0)), [[1, -3, 4, 1, 0, 0, 0], [7], [0]])
        self.assertEqual(run(of(0, without + [0]), count(0), has(0, 0)), [[1, -3, 4, 1, 0, 1, 0], [8], [1]])

    def test_in_whatever_order(self):
        self.assertEqual(last(of(0, [11, 3, 7])), [1, 3, 11, 4, 3, 0, 3, 3, 7, 11])
        self.assertEqual(last(of(0, [30, 10, -20, 60, 0, -10, 40])), [1, -20, 60, 10, 0, 1, 0])

    def test_a_number_twice_counts_once(self):
        self.assertEqual(last(of(0, [5, 5])), [1, 5, 5, 0, 5, 0, 1, 5])
        self.assertEqual(last(of(0, [1, 2, 3, 4, 5, 6, 1])), [1, 1, 6, 1, 0, 0, 6, 1, 2, 3, 4, 5, 6])
        self.assertEqual(last(of(0, [8] * 40)), [1, 8, 8, 0, 8, 0, 1, 8])

    def test_forty_numbers(self):
        self.assertEqual(last(of(0, list(range(0, 400, 10)))), [1, 0, 390, 10, 0, 1, 0])

    def test_numbers_at_the_bound(self):
        self.assertEqual(last(of(0, [BOUND, -BOUND])), [1, -BOUND, BOUND, 2 * BOUND, BOUND, 0, 2, -BOUND, BOUND])
        numbers = [BOUND, -BOUND, 1, 2, 3, 4, 5]
        self.assertEqual(run(of(0, numbers), count(0)), [[1, -BOUND, BOUND, 1, 0, 0, 0], [2 * BOUND]])

    def test_the_remainder_of_numbers_below_0(self):
        self.assertEqual(last(of(0, [-7, -2])), [1, -7, -2, 5, 3, 0, 2, -7, -2])
        self.assertEqual(last(of(0, [-5, 5])), [1, -5, 5, 10, 5, 0, 2, -5, 5])


class Parts(unittest.TestCase):
    def test_lo_and_hi_need_not_be_numbers_of_it(self):
        self.assertEqual(last(parts(0, -5, 50, 3, 1, 1)), [1, -5, 49, 3, 1, 0, 0])
        self.assertEqual(last(parts(0, -6, 51, 3, 1, 1)), [1, -5, 49, 3, 1, 0, 0])
        self.assertEqual(last(parts(0, -7, 52, 3, 1, 1)), [1, -5, 52, 3, 1, 0, 0])

    def test_lo_above_hi_is_none(self):
        self.assertEqual(run(of(0, [1]), parts(0, 5, 4, 1, 0, 1), told(0))[1:], [[0], [0]])
        self.assertEqual(last(parts(0, BOUND, -BOUND, 1, 0, 1)), [0])
        self.assertEqual(last(parts(0, 1, -1, 1, 0, 0)), [0])

    def test_none_between_two_of_the_remainder(self):
        self.assertEqual(last(parts(0, 1, 9, 10, 0, 1)), [0])

    def test_lo_and_hi_at_the_bound(self):
        self.assertEqual(run(parts(0, -BOUND, BOUND, 1, 0, 1), count(0)), [[1, -BOUND, BOUND, 1, 0, 1, 0], [2000001]])
        self.assertEqual(run(parts(0, -BOUND, BOUND, 1, 0, 0), count(0)), [[1, -BOUND, BOUND, 1, 0, 0, 0], [2000000]])
        self.assertEqual(last(parts(0, BOUND, BOUND, 1, 0, 1)), [1, BOUND, BOUND, 0, BOUND, 0, 1, BOUND])
        self.assertEqual(last(parts(0, -BOUND, -BOUND, 1, 0, 1)), [1, -BOUND, -BOUND, 0, -BOUND, 0, 1, -BOUND])

    def test_r_at_the_bound(self):
        for r in (BOUND, -BOUND):
            self.assertEqual(last(parts(0, 0, 69, 7, r, 1)), set_told(set_made_of(0, 69, 7, r, 1)))

    def test_r_not_from_0_to_m_less_1(self):
        for r in (-11, -6, -1, 4, 9, 14, 99):
            self.assertEqual(last(parts(0, -20, 30, 5, r, 1)), [1, -16, 29, 5, 4, 0, 0], r)

    def test_m_at_its_ends(self):
        self.assertEqual(last(parts(0, 1, 9, 1, 0, 1)), [1, 1, 9, 1, 0, 0, 0])
        self.assertEqual(
            last(parts(0, -BOUND, BOUND, BOUND, 0, 1)), [1, -BOUND, BOUND, BOUND, 0, 1, 3, -BOUND, 0, BOUND])
        self.assertEqual(
            last(parts(0, -BOUND, BOUND, BOUND, 0, 0)), [1, -BOUND, BOUND, 2 * BOUND, BOUND, 0, 2, -BOUND, BOUND])
        self.assertEqual(last(parts(0, 1, BOUND, BOUND, 5, 1)), [1, 5, 5, 0, 5, 0, 1, 5])

    def test_m_0_is_r_itself(self):
        for lo, hi in ((-9, 9), (4, 4)):
            self.assertEqual(told_value(made_of(lo, hi, 0, 4, 0)), [1, 4, 4, 0, 4, 0, 1, 4])
        self.assertEqual(told_value(made_of(-9, 9, 0, 0, 1)), [1, 0, 0, 0, 0, 1, 1, 0])
        for lo, hi, r, z in ((-9, 9, 0, 0), (-9, 3, 4, 1), (5, 9, 4, 1), (-FAR, FAR, BOUND + 1, 1)):
            self.assertEqual(told_value(made_of(lo, hi, 0, r, z)), [0])

    def test_made_of_goes_no_further_than_the_bound(self):
        self.assertEqual(told_value(made_of(-FAR, FAR, 7, 2, 1)), [1, -999997, 999994, 7, 2, 0, 0])


class ZeroLeftOut(unittest.TestCase):
    def test_seven_come_down_to_six(self):
        self.assertEqual(last(parts(0, -3, 3, 1, 0, 1)), [1, -3, 3, 1, 0, 1, 0])
        self.assertEqual(last(parts(0, -3, 3, 1, 0, 0)), [1, -3, 3, 1, 0, 0, 6, -3, -2, -1, 1, 2, 3])

    def test_the_least_one_is_moved(self):
        self.assertEqual(last(parts(0, 0, 70, 10, 0, 0)), [1, 10, 70, 10, 0, 0, 0])
        self.assertEqual(last(parts(0, 0, 60, 10, 0, 0)), [1, 10, 60, 10, 0, 0, 6, 10, 20, 30, 40, 50, 60])

    def test_the_greatest_one_is_moved(self):
        self.assertEqual(last(parts(0, -70, 0, 10, 0, 0)), [1, -70, -10, 10, 0, 0, 0])
        self.assertEqual(last(parts(0, -60, 0, 10, 0, 0)), [1, -60, -10, 10, 0, 0, 6, -60, -50, -40, -30, -20, -10])

    def test_nothing_else_is_there(self):
        self.assertEqual(last(parts(0, 0, 0, 1, 0, 0)), [0])
        self.assertEqual(last(parts(0, -9, 9, 10, 0, 0)), [0])
        self.assertEqual(last(parts(0, -9, 9, 10, 0, 1)), [1, 0, 0, 0, 0, 1, 1, 0])

    def test_the_distance_of_what_is_left(self):
        self.assertEqual(last(parts(0, -4, 4, 4, 0, 0)), [1, -4, 4, 8, 4, 0, 2, -4, 4])

    def test_eight_stay_many(self):
        self.assertEqual(run(parts(0, -3, 4, 1, 0, 0), count(0)), [[1, -3, 4, 1, 0, 0, 0], [7]])

    def test_z_says_nothing_of_rows_without_0(self):
        for z in (0, 1):
            self.assertEqual(last(parts(0, -9, 30, 4, 1, z)), [1, -7, 29, 4, 1, 0, 0])
            self.assertEqual(last(parts(0, 4, 40, 4, 0, z)), [1, 4, 40, 4, 0, 0, 0])
            self.assertEqual(last(parts(0, -40, -4, 4, 0, z)), [1, -40, -4, 4, 0, 0, 0])
            self.assertEqual(run(parts(0, 1, 7, 1, 0, z), count(0)), [[1, 1, 7, 1, 0, 0, 0], [7]])
            self.assertEqual(run(parts(0, -7, -1, 1, 0, z), count(0)), [[1, -7, -1, 1, 0, 0, 0], [7]])


class Shown(unittest.TestCase):
    def test_none(self):
        for made in (of(0, []), parts(0, 2, 1, 1, 0, 1)):
            self.assertEqual(
                run(made, told(0), has(0, 0), has(0, 5), count(0), first(0, 0), first(0, 50))[1:],
                [[0], [0], [0], [0], [0], [0]])

    def test_few(self):
        self.assertEqual(
            run(of(0, [-4, 0, 9]), told(0), has(0, 0), has(0, -4), has(0, 5), count(0))[1:],
            [[1, -4, 9, 1, 0, 1, 3, -4, 0, 9], [1], [1], [0], [3]])

    def test_many(self):
        self.assertEqual(
            run(parts(0, -12, 18, 3, 0, 0), told(0), has(0, 0), has(0, -12), has(0, 18), has(0, 4), count(0))[1:],
            [[1, -12, 18, 3, 0, 0, 0], [0], [1], [1], [0], [10]])

    def test_has_beyond_the_ends_of_many(self):
        made = parts(0, -12, 18, 3, 0, 1)
        self.assertEqual(run(made, has(0, -15), has(0, 21), has(0, 0))[1:], [[0], [0], [1]])

    def test_has_of_a_number_beyond_the_bound(self):
        for made in (of(0, []), of(0, [BOUND]), parts(0, -BOUND, BOUND, 1, 0, 1)):
            for number in (BOUND + 1, -BOUND - 1, FAR, -FAR):
                self.assertEqual(run(made, has(0, number))[1], [0])
        self.assertEqual(last(parts(0, -BOUND, BOUND, 1, 0, 1), has(0, BOUND)), [1])
        self.assertEqual(last(parts(0, -BOUND, BOUND, 1, 0, 1), has(0, -BOUND)), [1])

    def test_first_of_few(self):
        made = of(0, [9, -4, 0])
        self.assertEqual(
            run(made, first(0, 0), first(0, 2), first(0, 3), first(0, 4), first(0, 50))[1:],
            [[0], [2, -4, 0], [3, -4, 0, 9], [3, -4, 0, 9], [3, -4, 0, 9]])

    def test_first_of_many(self):
        made = parts(0, -6, 24, 3, 0, 1)
        self.assertEqual(run(made, first(0, 0), first(0, 4))[1:], [[0], [4, -6, -3, 0, 3]])
        self.assertEqual(last(made, first(0, 50)), [11] + list(range(-6, 25, 3)))

    def test_first_of_many_goes_past_0_left_out(self):
        made = parts(0, -6, 24, 3, 0, 0)
        self.assertEqual(run(made, first(0, 2), first(0, 3))[1:], [[2, -6, -3], [3, -6, -3, 3]])
        self.assertEqual(last(made, first(0, 50)), [10, -6, -3] + list(range(3, 25, 3)))

    def test_first_of_more_than_fifty(self):
        self.assertEqual(last(parts(0, -BOUND, BOUND, 1, 0, 1), first(0, 50)), [50] + list(range(-BOUND, 50 - BOUND)))
        self.assertEqual(last(parts(0, 1, 50, 1, 0, 1), first(0, 50)), [50] + list(range(1, 51)))

    def test_showing_changes_nothing(self):
        for made in (of(0, [1, 5]), parts(0, -20, 20, 2, 1, 1)):
            given = run(made, has(0, 1), count(0), first(0, 50), told(0))
            self.assertEqual(given[0], given[-1])


class AgainstPlainSets(unittest.TestCase):
    def assert_shown(self, made, numbers):
        shown = sorted(numbers)
        asked = range(min(shown, default=0) - 3, max(shown, default=0) + 4)
        given = run(made, count(0), first(0, 50), *[has(0, n) for n in list(asked)[:90]])
        self.assertEqual(given[0], set_told(numbers), made)
        self.assertEqual(given[1], [len(shown)], made)
        self.assertEqual(given[2], [len(shown[:50])] + shown[:50], made)
        self.assertEqual(given[3:], [[1 if n in numbers else 0] for n in list(asked)[:90]], made)

    def test_parts(self):
        for m in (1, 2, 3, 5, 8):
            for lo in range(-4 * m - 1, m + 2):
                for hi in range(-m - 1, 4 * m + 2, 2):
                    for r in (0, 1):
                        for z in (0, 1):
                            self.assert_shown(parts(0, lo, hi, m, r, z), set_made_of(lo, hi, m, r, z))

    def test_of(self):
        chance = random.Random(1)
        for trial in range(600):
            m = chance.choice((1, 1, 2, 3, 12))
            numbers = [m * chance.randint(-12, 12) + trial % 2 for turn in range(chance.randint(0, 16))]
            self.assert_shown(of(0, numbers), set_hull(set(numbers)))


if __name__ == "__main__":
    unittest.main()
