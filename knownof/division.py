"""Divisors and remainders of whole numbers."""


def greatest_divisor(one, other):
    """The greatest number that divides both, neither of which is below 0; of 0 and another, the other."""
    while other != 0:
        rest = one % other
        one = other
        other = rest
    return one


def inverse(number, modulus):
    """What number must be multiplied by to leave 1 by modulus; nothing above 1 divides both."""
    above = modulus
    below = number % modulus
    # Each of above and below is number times its factor, but for a multiple of modulus.
    above_factor = 0
    below_factor = 1
    while below != 0:
        quotient = above // below
        rest = above - quotient * below
        rest_factor = above_factor - quotient * below_factor
        above = below
        above_factor = below_factor
        below = rest
        below_factor = rest_factor
    return above_factor % modulus


def shared_number(remainder, modulus, other_remainder, other_modulus):
    """A number that leaves each remainder by its modulus, or None if there is no such number."""
    divisor = greatest_divisor(modulus, other_modulus)
    distance = other_remainder - remainder
    if distance % divisor != 0:
        return None
    cycle = other_modulus // divisor
    steps = distance // divisor * inverse(modulus // divisor, cycle) % cycle
    return remainder + steps * modulus
