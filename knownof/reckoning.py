"""Reckoning with values: what comes out is a value again."""

from knownof.division import greatest_divisor, shared_number
from knownof.value import BOUND, FEW, between, few_of, first_numbers, has, hull, is_few, made_of, negated


def join(one, other):
    """The hull of both's numbers."""
    if one.size == 0:
        return other
    if other.size == 0:
        return one
    if is_few(one) and is_few(other):
        return hull(one.numbers + other.numbers)
    modulus = greatest_divisor(one.modulus, other.modulus)
    modulus = greatest_divisor(modulus, abs(one.least - other.least))
    least = min(one.least, other.least)
    greatest = max(one.greatest, other.greatest)
    return made_of(least, greatest, modulus, least, max(one.zero, other.zero))


def meet(one, other):
    """The numbers that are both's."""
    if is_few(one):
        return few_of([number for number in one.numbers if has(other, number)])
    if is_few(other):
        return few_of([number for number in other.numbers if has(one, number)])
    shared = shared_number(one.remainder, one.modulus, other.remainder, other.modulus)
    if shared is None:
        return few_of([])
    modulus = one.modulus // greatest_divisor(one.modulus, other.modulus) * other.modulus
    least = max(one.least, other.least)
    greatest = min(one.greatest, other.greatest)
    return made_of(least, greatest, modulus, shared, min(one.zero, other.zero))


def is_within(one, other):
    """Whether all numbers of the one are the other's."""
    return meet(one, other).size == one.size


def handful(value, number):
    """Some of the value's numbers, the given one among them if it is one, that stand for all of them.

    A hull asks for the ends, what divides all distances, whether 0 is there, and which they are if they are few:
    so a hull of sums or products needs no more numbers than these, provided number is what becomes 0.
    """
    taken = first_numbers(value, FEW)
    if not is_few(value):
        taken.append(value.greatest)
    if has(value, number):
        taken.append(number)
    return taken


def few_plus(few, other):
    """The hull of the sums within the bound; none if one is none."""
    sums = []
    for number in few.numbers:
        fitting = between(other, -BOUND - number, BOUND - number)
        sums.extend([number + summand for summand in handful(fitting, -number)])
    return hull(sums)


def plus(one, other):
    if is_few(one):
        return few_plus(one, other)
    if is_few(other):
        return few_plus(other, one)
    modulus = greatest_divisor(one.modulus, other.modulus)
    least = one.least + other.least
    greatest = one.greatest + other.greatest
    return made_of(least, greatest, modulus, one.remainder + other.remainder, 1)


def minus(one, other):
    return plus(one, negated(other))


def few_times(few, other):
    """The hull of the products within the bound; none if one is none."""
    products = []
    for number in few.numbers:
        reach = BOUND if number == 0 else BOUND // abs(number)
        fitting = between(other, -reach, reach)
        products.extend([number * factor for factor in handful(fitting, 0)])
    return hull(products)


def times(one, other):
    if is_few(one):
        return few_times(one, other)
    if is_few(other):
        return few_times(other, one)
    corners = [
        one.least * other.least,
        one.least * other.greatest,
        one.greatest * other.least,
        one.greatest * other.greatest,
    ]
    modulus = greatest_divisor(one.modulus * other.modulus, one.modulus * other.remainder)
    modulus = greatest_divisor(modulus, other.modulus * one.remainder)
    remainder = one.remainder * other.remainder
    return made_of(min(corners), max(corners), modulus, remainder, max(one.zero, other.zero))


def rem(value, divisor):
    """What's known of the remainder by divisor."""
    if is_few(value):
        return hull([number % divisor for number in value.numbers])
    if value.least // divisor == value.greatest // divisor:
        # Between two neighbouring multiples there are no more numbers than divisor, so these are all.
        return hull([number % divisor for number in first_numbers(value, divisor)])
    return made_of(0, divisor - 1, greatest_divisor(value.modulus, divisor), value.remainder, 1)


def widen(value, other, thresholds):
    """The value with the other's numbers too, an end that moves going on to the next threshold or to the bound."""
    if value.size == 0:
        return other
    if is_within(other, value):
        return value
    joined = join(value, other)
    if is_few(joined):
        return joined
    least = joined.least
    if least < value.least:
        least = max([-BOUND] + [threshold for threshold in thresholds if threshold <= joined.least])
    greatest = joined.greatest
    if greatest > value.greatest:
        greatest = min([BOUND] + [threshold for threshold in thresholds if threshold >= joined.greatest])
    return made_of(least, greatest, joined.modulus, joined.remainder, joined.zero)
