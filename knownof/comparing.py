"""Tests of two values: what they leave of both, and their verdicts."""

from knownof.reckoning import meet
from knownof.value import BOUND, between, few_of, is_few, without

LESS = 0
LESS_OR_EQUAL = 1
EQUAL = 2
UNEQUAL = 3
TESTS = 4

NEVER = 0
ALWAYS = 1
NOT_KNOWN = 2


def left_unequal(value, other):
    """The value's numbers that may be unequal to the other, as far as a value can say so."""
    if other.size != 1:
        return value
    number = other.least
    if is_few(value) or number in (0, value.least, value.greatest):
        return without(value, number)
    return value


def left_of_each(which, one, other):
    """What a test leaves of the one and of the other, each looked at by itself; of none, nothing."""
    if which == LESS:
        return (between(one, -BOUND, other.greatest - 1), between(other, one.least + 1, BOUND))
    if which == LESS_OR_EQUAL:
        return (between(one, -BOUND, other.greatest), between(other, one.least, BOUND))
    if which == EQUAL:
        met = meet(one, other)
        return (met, met)
    return (left_unequal(one, other), left_unequal(other, one))


def left_of_both(which, one, other):
    """What a test leaves of the one and of the other: a pair, both none if one of them is."""
    pair = left_of_each(which, one, other)
    if pair[0].size == 0 or pair[1].size == 0:
        return (few_of([]), few_of([]))
    return pair


def leaves_none(which, one, other):
    return left_of_both(which, one, other)[0].size == 0


def leaves_none_opposite(which, one, other):
    if which == LESS:
        return leaves_none(LESS_OR_EQUAL, other, one)
    if which == LESS_OR_EQUAL:
        return leaves_none(LESS, other, one)
    if which == EQUAL:
        return leaves_none(UNEQUAL, one, other)
    return leaves_none(EQUAL, one, other)


def verdict(which, one, other):
    if leaves_none(which, one, other):
        return NEVER
    if leaves_none_opposite(which, one, other):
        return ALWAYS
    return NOT_KNOWN
