"""Calls written by name, and their answers one by one."""

from knownof.knowledge import answers

BOUND = 1000000
FAR = 10 ** 18
NOT_SLOTS = (-1, 6, -FAR, FAR)
REFUSED_SLOT = [-2]


def of(new, numbers):
    return [0, new, len(numbers)] + list(numbers)


def parts(new, lo, hi, m, r, z):
    return [1, new, lo, hi, m, r, z]


def told(a):
    return [2, a]


def has(a, number):
    return [3, a, number]


def count(a):
    return [4, a]


def first(a, n):
    return [5, a, n]


def join(new, a, b):
    return [6, new, a, b]


def meet(new, a, b):
    return [7, new, a, b]


def widen(new, a, b, thresholds):
    return [8, new, a, b, len(thresholds)] + list(thresholds)


def within(a, b):
    return [9, a, b]


def plus(new, a, b):
    return [10, new, a, b]


def minus(new, a, b):
    return [11, new, a, b]


def times(new, a, b):
    return [12, new, a, b]


def rem(new, a, n):
    return [13, new, a, n]


def test(which, new, other, a, b):
    return [14, which, new, other, a, b]


def verdict(which, a, b):
    return [15, which, a, b]


def run(*calls):
    """The answers of the calls, a list each."""
    given = answers([number for call in calls for number in call])
    split = []
    place = 0
    while place < len(given):
        end = place + 1 + given[place]
        split.append(given[place + 1:end])
        place = end
    return split


def last(*calls):
    return run(*calls)[-1]
