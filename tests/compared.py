"""The same calls answered by the program and by plain sets. A call here is a tuple: its name, what is handed to it."""

import unittest

from tests import helper
from tests.plain import BOUND, PlainSlots

# What fills a slot: a list is handed to of, a tuple to parts.
NONE = ([],)
FEW = (
    [0], [1], [-1], [4], [-7], [0, 1], [-1, 1], [-3, 0, 4], [2, 5], [10, 30, 50], [-12, -9, -6, -3, 3, 6],
    [2, 7, 12, 17, 22, 27])
MANY = (
    (-5, 50, 3, 1, 1), (-9, 9, 1, 0, 1), (-9, 9, 1, 0, 0), (1, 7, 1, 0, 1), (-7, -1, 1, 0, 1), (0, 60, 6, 0, 1),
    (0, 60, 6, 0, 0), (-60, 60, 6, 0, 1), (-60, 60, 6, 0, 0), (-60, 0, 6, 0, 1), (-50, 40, 6, 3, 1), (5, 95, 10, 5, 1),
    (-3, 4, 1, 0, 0), (-96, 0, 4, 3, 1))
SMALL = NONE + FEW + MANY

# Numbers that reach the bound, far enough apart for sets of them to stay small.
STEP = 50000
WIDE_FEW = (
    [BOUND], [-BOUND], [-BOUND, BOUND], [STEP], [-STEP, 0, 2 * STEP], [400000, 950000], [-900000, 800000, 850000])
WIDE_MANY = (
    (-BOUND, BOUND, STEP, 0, 1), (-BOUND, BOUND, STEP, 0, 0), (-BOUND, BOUND, STEP, 20000, 1),
    (600000, BOUND, STEP, 0, 1), (-BOUND, -650000, STEP, 0, 1), (0, BOUND, 2 * STEP, STEP, 1),
    (-950000, 250000, 3 * STEP, STEP, 1))
WIDE = NONE + WIDE_FEW + WIDE_MANY


def fill(slot, filling):
    return ("of", slot, filling) if isinstance(filling, list) else ("parts", slot, *filling)


def written(call):
    name, *handed = call
    return getattr(helper, name)(*handed)


class Compared(unittest.TestCase):
    def assert_as_plain(self, *calls):
        slots = PlainSlots()
        expected = [slots.answer(*call) for call in calls]
        self.assertEqual(helper.run(*[written(call) for call in calls]), expected, calls)

    def assert_pairs_as_plain(self, fillings, others, *calls):
        """The calls, behind slots 0 and 1 filled with each of these pairs."""
        for filling in fillings:
            for other in others:
                self.assert_as_plain(fill(0, filling), fill(1, other), *calls)


def drawn_small(chance):
    """Some numbers, or parts, with 0 near."""
    if chance.random() < 0.4:
        m = chance.choice((1, 1, 2, 5))
        return [m * chance.randint(-9, 9) for turn in range(chance.choice((0, 1, 1, 2, 3, 5, 6, 7, 9)))]
    lo = chance.choice((0, -24, chance.randint(-120, 40)))
    hi = chance.choice((0, 24, lo + chance.randint(-3, 160)))
    return (lo, hi, chance.choice((1, 1, 2, 3, 4, 5, 6, 12)), chance.choice((0, 0, chance.randint(-30, 30))),
            chance.randint(0, 1))


def drawn_wide(chance):
    """Some numbers, or parts, far apart and up to the bound."""
    if chance.random() < 0.5:
        return [STEP * chance.randint(-20, 20) for turn in range(chance.choice((1, 1, 2, 4, 6, 7)))]
    return (STEP * chance.randint(-20, 0), STEP * chance.randint(0, 20), STEP * chance.randint(1, 3),
            STEP * chance.randint(-3, 3), chance.randint(0, 1))
