"""The list of answers: its form, what is handed in, and what is kept from one time to the next."""

import unittest

from knownof.knowledge import answers
from tests.helper import (
    BOUND, FAR, count, first, has, join, last, meet, minus, of, parts, plus, rem, run, test, times, told, verdict,
    widen, within)

LINE = (of(0, [3, 7, 11]) + parts(1, -5, 50, 3, 1, 1) + of(2, [0] * 41) + told(6) + has(1, 4) + count(1)
        + first(1, 3) + first(1, 51) + join(3, 0, 1) + meet(4, 0, 1) + of(5, []) + told(5)
        + widen(3, 0, 1, [-8, 60]) + within(0, 3) + plus(2, 0, 1) + minus(5, 0, 4) + times(5, 4, 0) + rem(5, 1, 4)
        + widen(2, 0, 1, [0] * 9) + rem(2, 1, 100) + test(1, 2, 5, 0, 4) + test(4, 2, 5, 0, 4) + verdict(3, 2, 5))


class Unchangeable(list):
    def refuse(self, *handed, **named):
        raise RuntimeError("what is handed in was changed")

    __setitem__ = __delitem__ = __iadd__ = __imul__ = refuse
    append = extend = insert = pop = remove = clear = sort = reverse = refuse


class TheExample(unittest.TestCase):
    def test_as_it_stands_in_the_document(self):
        given = run(
            of(0, [3, 7, 11]), parts(1, -5, 50, 3, 1, 1), plus(2, 0, 1), times(3, 1, 0), meet(4, 0, 1),
            test(0, 4, 5, 1, 0), verdict(0, 0, 2))
        self.assertEqual(given, [
            [1, 3, 11, 4, 3, 0, 3, 3, 7, 11],
            [1, -5, 49, 3, 1, 0, 0],
            [1, -2, 60, 1, 0, 0, 0],
            [1, -55, 539, 1, 0, 0, 0],
            [1, 7, 7, 0, 7, 0, 1, 7],
            [1, -5, 10, 3, 1, 0, 6, -5, -2, 1, 4, 7, 10] + [1, 3, 11, 4, 3, 0, 3, 3, 7, 11],
            [2]])

    def test_as_one_list_of_numbers(self):
        self.assertEqual(
            answers([
                0, 0, 3, 3, 7, 11, 1, 1, -5, 50, 3, 1, 1, 10, 2, 0, 1, 12, 3, 1, 0, 7, 4, 0, 1, 14, 0, 4, 5, 1, 0,
                15, 0, 0, 2]),
            [10, 1, 3, 11, 4, 3, 0, 3, 3, 7, 11, 7, 1, -5, 49, 3, 1, 0, 0, 7, 1, -2, 60, 1, 0, 0, 0,
             7, 1, -55, 539, 1, 0, 0, 0, 8, 1, 7, 7, 0, 7, 0, 1, 7,
             23, 1, -5, 10, 3, 1, 0, 6, -5, -2, 1, 4, 7, 10, 1, 3, 11, 4, 3, 0, 3, 3, 7, 11, 1, 2])


class TheForm(unittest.TestCase):
    def test_each_answer_has_its_length_before_it(self):
        self.assertEqual(answers(LINE), [
            10, 1, 3, 11, 4, 3, 0, 3, 3, 7, 11,
            7, 1, -5, 49, 3, 1, 0, 0,
            1, -1,
            1, -2,
            1, 1,
            1, 19,
            4, 3, -5, -2, 1,
            1, -4,
            7, 1, -5, 49, 1, 0, 0, 0,
            8, 1, 7, 7, 0, 7, 0, 1, 7,
            1, 0,
            1, 0,
            7, 1, -8, 60, 1, 0, 0, 0,
            1, 1,
            7, 1, -2, 60, 1, 0, 0, 0,
            10, 1, -4, 4, 4, 0, 1, 3, -4, 0, 4,
            10, 1, 21, 77, 28, 21, 0, 3, 21, 49, 77,
            11, 1, 0, 3, 1, 0, 1, 4, 0, 1, 2, 3,
            1, -1,
            1, -4,
            17, 1, 3, 7, 4, 3, 0, 2, 3, 7, 1, 7, 7, 0, 7, 0, 1, 7,
            1, -3,
            1, 2])

    def test_a_list_of_whole_numbers(self):
        given = answers(LINE + has(0, 5) + has(0, 7))
        self.assertIs(type(given), list)
        self.assertEqual({type(number) for number in given}, {int})

    def test_rows_of_every_length_end_where_they_say(self):
        for length in range(61):
            with self.subTest(length=length):
                given = run(of(0, [2] * length), of(1, [5]), told(1))
                self.assertEqual(given[1:], [[1, 5, 5, 0, 5, 0, 1, 5]] * 2)

    def test_thresholds_of_every_length_end_where_they_say(self):
        for length in range(21):
            with self.subTest(length=length):
                given = run(widen(0, 2, 3, [2] * length), of(1, [5]), told(1))
                self.assertEqual(given[1:], [[1, 5, 5, 0, 5, 0, 1, 5]] * 2)

    def test_the_longest_list(self):
        """A hundred calls, each as long as it may be, with numbers as far out as they may be."""
        self.assertEqual(run(*[of(FAR, [-FAR] * 60)] * 100), [[-2]] * 100)
        self.assertEqual(run(*[widen(0, 1, 2, [-FAR] * 20)] * 100), [[-1]] * 100)

    def test_a_hundred_calls_on_the_widest_values(self):
        widest = parts(0, -BOUND, BOUND, 1, 0, 1)
        six = of(1, [-1000, -3, 1, 2, 7, 999])
        calls = [plus(2, 0, 1), minus(2, 1, 0), times(3, 0, 1), times(4, 0, 0), widen(5, 1, 0, []), within(1, 0)] * 16
        shown = [[1, -BOUND, BOUND, 1, 0, 1, 0]] * 5 + [[1]]
        self.assertEqual(run(widest, six, *calls)[2:], shown * 16)

    def test_a_hundred_calls(self):
        calls = [of(slot % 6, [slot]) for slot in range(100)]
        self.assertEqual(run(*calls), [[1, n, n, 0, n, 1 if n == 0 else 0, 1, n] for n in range(100)])

    def test_the_longest_answer(self):
        self.assertEqual(last(parts(0, -50, 50, 1, 0, 1), first(0, 50)), [50] + list(range(-50, 0)))


class WhatIsHandedIn(unittest.TestCase):
    def test_is_the_same_afterwards(self):
        handed = list(LINE)
        answers(handed)
        self.assertEqual(handed, LINE)

    def test_is_not_changed_for_a_while_either(self):
        self.assertEqual(answers(Unchangeable(LINE)), answers(LINE))

    def test_twice_gets_the_same_answers(self):
        handed = list(LINE)
        self.assertEqual(answers(handed), answers(handed))

    def test_an_answer_that_is_changed_changes_no_other(self):
        given = answers(LINE)
        kept = list(given)
        given.clear()
        self.assertEqual(answers(LINE), kept)


class NothingIsKept(unittest.TestCase):
    def test_all_slots_are_none_at_the_beginning(self):
        for slot in range(6):
            with self.subTest(slot=slot):
                run(*[of(new, [new, new + 1]) for new in range(6)])
                self.assertEqual(
                    run(told(slot), count(slot), first(slot, 50), has(slot, 0)), [[0], [0], [0], [0]])

    def test_each_slot_keeps_its_own(self):
        filled = [of(slot, [10 + slot]) for slot in range(6)]
        shown = run(*filled, *[told(slot) for slot in range(6)])[6:]
        self.assertEqual(shown, [[1, n, n, 0, n, 0, 1, n] for n in range(10, 16)])


if __name__ == "__main__":
    unittest.main()
