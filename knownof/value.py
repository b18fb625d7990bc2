"""Values: sets of numbers within the bound, the same numbers always kept alike."""

from knownof.division import greatest_divisor

BOUND = 1000000
FEW = 6


class Value:
    """Some numbers within the bound; none is the value of size 0, and like few.

    numbers has them, rising, if they are few. Of many it is empty: they are all from least to greatest that
    leave remainder by modulus, 0 among them only if zero is 1. A value is never changed, so slots may share it.
    """

    def __init__(self, size, least, greatest, modulus, remainder, zero, numbers):
        self.size = size
        self.least = least
        self.greatest = greatest
        self.modulus = modulus
        self.remainder = remainder
        self.zero = zero
        self.numbers = numbers


def is_beyond(number):
    return number < -BOUND or number > BOUND


def is_few(value):
    return value.size <= FEW


def common_distance(rising):
    """The greatest number that divides all distances between the numbers; 0 if there is just one."""
    divisor = 0
    for number in rising:
        divisor = greatest_divisor(divisor, number - rising[0])
    return divisor


def few_of(rising):
    """The value of at most FEW numbers that come rising, each once; none of no numbers."""
    if len(rising) == 0:
        return Value(0, 0, 0, 0, 0, 0, [])
    least = rising[0]
    modulus = common_distance(rising)
    remainder = least if modulus == 0 else least % modulus
    zero = 1 if 0 in rising else 0
    return Value(len(rising), least, rising[-1], modulus, remainder, zero, rising)


def row_of(least, greatest, modulus, zero):
    """The value of least, greatest and all between them that are multiples of modulus away, 0 only if zero is 1.

    Least and greatest are numbers of the value themselves, unless least is above greatest: then it is none.
    """
    crosses_zero = least <= 0 and greatest >= 0 and least % modulus == 0
    size = (greatest - least) // modulus + 1
    if crosses_zero and zero != 1:
        size -= 1
    if size <= FEW:
        return few_of([number for number in range(least, greatest + 1, modulus) if number != 0 or zero == 1])
    kept_zero = 1 if crosses_zero and zero == 1 else 0
    return Value(size, least, greatest, modulus, least % modulus, kept_zero, [])


def made_of(lo, hi, modulus, remainder, zero):
    """All numbers within the bound from lo to hi that leave remainder by modulus, but not 0 if zero isn't 1."""
    low = max(lo, -BOUND)
    high = min(hi, BOUND)
    if modulus == 0:
        return few_of([remainder] if low <= remainder <= high and (remainder != 0 or zero == 1) else [])
    least = low + (remainder - low) % modulus
    greatest = high - (high - remainder) % modulus
    # A 0 that is left out at an end hands that end on to its neighbour.
    if least == 0 and zero != 1:
        least = modulus
    if greatest == 0 and zero != 1:
        greatest = -modulus
    return row_of(least, greatest, modulus, zero)


def hull(numbers):
    """The value by which some numbers within the bound, in whatever order, are kept."""
    rising = sorted(set(numbers))
    if len(rising) <= FEW:
        return few_of(rising)
    return made_of(rising[0], rising[-1], common_distance(rising), rising[0], 1 if 0 in rising else 0)


def told(value):
    if value.size == 0:
        return [0]
    head = [1, value.least, value.greatest, value.modulus, value.remainder, value.zero, len(value.numbers)]
    return head + value.numbers


def has(value, number):
    if is_few(value):
        return number in value.numbers
    if number == 0:
        return value.zero == 1
    return value.least <= number <= value.greatest and number % value.modulus == value.remainder


def first_numbers(value, limit):
    """The least numbers of the value, rising: as many as limit, or all if they are fewer."""
    if is_few(value):
        return value.numbers[:limit]
    numbers = []
    number = value.least
    while number <= value.greatest and len(numbers) < limit:
        if number != 0 or value.zero == 1:
            numbers.append(number)
        number += value.modulus
    return numbers


def between(value, low, high):
    """The numbers of the value from low to high."""
    if is_few(value):
        return few_of([number for number in value.numbers if low <= number <= high])
    return made_of(max(low, value.least), min(high, value.greatest), value.modulus, value.remainder, value.zero)


def without(value, number):
    """The numbers of the value but the given one, which is 0 or at an end if the value is many."""
    if is_few(value):
        return few_of([kept for kept in value.numbers if kept != number])
    if number == 0:
        return made_of(value.least, value.greatest, value.modulus, value.remainder, 0)
    if number == value.least:
        return between(value, number + 1, value.greatest)
    return between(value, value.least, number - 1)


def negated(value):
    """The numbers of the value times -1."""
    if is_few(value):
        return few_of([-number for number in reversed(value.numbers)])
    return made_of(-value.greatest, -value.least, value.modulus, -value.remainder, value.zero)
