"""Calls written by name, their answers one by one, and the document's words over plain sets of numbers."""

from math import gcd

from knownof.knowledge import answers

BOUND = 1000000
FAR = 10 ** 18
NOT_SLOTS = (-1, 6, -FAR, FAR)
REFUSED_SLOT = [-2]


def of(new, numbers):
    return [0, new, len(numbers)] + list(numbers)


def parts(new, lo, hi, m, r, z):
    return [1, new, lo, hi, m, r, z]


def told(a):
    return [2, a]


def has(a, number):
    return [3, a, number]


def count(a):
    return [4, a]


def first(a, n):
    return [5, a, n]


def join(new, a, b):
    return [6, new, a, b]


def meet(new, a, b):
    return [7, new, a, b]


def run(*calls):
    """The answers of the calls, a list each."""
    given = answers([number for call in calls for number in call])
    split = []
    place = 0
    while place < len(given):
        end = place + 1 + given[place]
        split.append(given[place + 1:end])
        place = end
    return split


def last(*calls):
    return run(*calls)[-1]


def distances_divisor(numbers):
    return gcd(*[number - min(numbers) for number in numbers])


def set_made_of(lo, hi, m, r, z):
    span = range(max(lo, -BOUND), min(hi, BOUND) + 1)
    return {n for n in span if (n == r if m == 0 else (n - r) % m == 0) and (n != 0 or z == 1)}


def set_hull(numbers):
    if len(numbers) <= 6:
        return set(numbers)
    z = 1 if 0 in numbers else 0
    return set_made_of(min(numbers), max(numbers), distances_divisor(numbers), min(numbers), z)


def set_told(numbers):
    if not numbers:
        return [0]
    m = distances_divisor(numbers)
    r = min(numbers) % m if m else min(numbers)
    few = sorted(numbers) if len(numbers) <= 6 else []
    return [1, min(numbers), max(numbers), m, r, 1 if 0 in numbers else 0, len(few)] + few
