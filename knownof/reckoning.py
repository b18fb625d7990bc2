"""Reckoning with two values: what comes out is a value again."""

from knownof.division import greatest_divisor, shared_number
from knownof.value import few_of, has, hull, is_few, made_of


def join(one, other):
    """The hull of both's numbers."""
    if one.size == 0:
        return other
    if other.size == 0:
        return one
    if is_few(one) and is_few(other):
        return hull(one.numbers + other.numbers)
    modulus = greatest_divisor(one.modulus, other.modulus)
    modulus = greatest_divisor(modulus, abs(one.least - other.least))
    least = min(one.least, other.least)
    greatest = max(one.greatest, other.greatest)
    return made_of(least, greatest, modulus, least, max(one.zero, other.zero))


def meet(one, other):
    """The numbers that are both's."""
    if is_few(one):
        return few_of([number for number in one.numbers if has(other, number)])
    if is_few(other):
        return few_of([number for number in other.numbers if has(one, number)])
    shared = shared_number(one.remainder, one.modulus, other.remainder, other.modulus)
    if shared is None:
        return few_of([])
    modulus = one.modulus // greatest_divisor(one.modulus, other.modulus) * other.modulus
    least = max(one.least, other.least)
    greatest = min(one.greatest, other.greatest)
    return made_of(least, greatest, modulus, shared, min(one.zero, other.zero))
