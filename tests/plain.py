"""The document's words over plain sets, worked out number by number: what the program's answers are compared with."""

from math import gcd

BOUND = 1000000


def distances_divisor(numbers):
    rising = sorted(numbers)
    return gcd(*[above - below for below, above in zip(rising, rising[1:])])


def remainder(numbers):
    m = distances_divisor(numbers)
    return min(numbers) % m if m else min(numbers)


def set_made_of(lo, hi, m, r, z):
    span = range(max(lo, -BOUND), min(hi, BOUND) + 1)
    if m == 0 or len(span) < 1000:
        return {n for n in span if (n == r if m == 0 else (n - r) % m == 0) and (n != 0 or z == 1)}
    # The same by steps, for spans that would take long.
    numbers = set(range(span.start + (r - span.start) % m, span.stop, m))
    return numbers if z == 1 else numbers - {0}


def set_hull(numbers):
    if len(numbers) <= 6:
        return set(numbers)
    z = 1 if 0 in numbers else 0
    return set_made_of(min(numbers), max(numbers), distances_divisor(numbers), min(numbers), z)


def set_told(numbers):
    if not numbers:
        return [0]
    few = sorted(numbers) if len(numbers) <= 6 else []
    z = 1 if 0 in numbers else 0
    return [1, min(numbers), max(numbers), distances_divisor(numbers), remainder(numbers), z, len(few)] + few


def set_plus(a, b):
    if not a or not b:
        return set()
    if len(a) <= 6 or len(b) <= 6:
        return set_hull({x + y for x in a for y in b if -BOUND <= x + y <= BOUND})
    m = gcd(distances_divisor(a), distances_divisor(b))
    return set_made_of(min(a) + min(b), max(a) + max(b), m, remainder(a) + remainder(b), 1)


def set_minus(a, b):
    return set_plus(a, {-y for y in b})


def set_times(a, b):
    if not a or not b:
        return set()
    if len(a) <= 6 or len(b) <= 6:
        return set_hull({x * y for x in a for y in b if -BOUND <= x * y <= BOUND})
    corners = [x * y for x in (min(a), max(a)) for y in (min(b), max(b))]
    m, r, other_m, other_r = distances_divisor(a), remainder(a), distances_divisor(b), remainder(b)
    z = 1 if 0 in a or 0 in b else 0
    return set_made_of(min(corners), max(corners), gcd(m * other_m, m * other_r, other_m * r), r * other_r, z)


def set_rem(a, n):
    if not a:
        return set()
    if len(a) <= 6 or between_the_same_multiples(min(a), max(a), n):
        return set_hull({x % n for x in a})
    return set_made_of(0, n - 1, gcd(distances_divisor(a), n), remainder(a), 1)


def between_the_same_multiples(least, greatest, n):
    lower = least
    while lower % n != 0:
        lower -= 1
    return greatest < lower + n


def set_widen(a, b, thresholds):
    if not a or not b:
        return a | b
    if b <= a:
        return a
    joined = set_hull(a | b)
    if len(joined) <= 6:
        return joined
    lo, hi = min(joined), max(joined)
    if lo < min(a):
        lo = max([t for t in thresholds if t <= lo], default=-BOUND)
    if hi > max(a):
        hi = min([t for t in thresholds if t >= hi], default=BOUND)
    return set_made_of(lo, hi, distances_divisor(joined), remainder(joined), 1 if 0 in joined else 0)


def set_unequal(a, b):
    if len(b) != 1:
        return a
    n = min(b)
    return a - {n} if len(a) <= 6 or n == 0 or n == min(a) or n == max(a) else a


def set_left(which, a, b):
    """What's left of a and of b."""
    if not a or not b:
        return set(), set()
    least, greatest = min(a), max(b)
    if which == 0:
        left, other_left = {x for x in a if x < greatest}, {y for y in b if y > least}
    elif which == 1:
        left, other_left = {x for x in a if x <= greatest}, {y for y in b if y >= least}
    elif which == 2:
        left, other_left = a & b, a & b
    else:
        left, other_left = set_unequal(a, b), set_unequal(b, a)
    return (left, other_left) if left and other_left else (set(), set())


def set_verdict(which, a, b):
    if set_left(which, a, b) == (set(), set()):
        return 0
    opposite = {0: (1, b, a), 1: (0, b, a), 2: (3, a, b), 3: (2, a, b)}[which]
    return 1 if set_left(*opposite) == (set(), set()) else 2


class PlainSlots:
    """Six slots that hold plain sets. A call is a tuple of its name and what is handed to it, a row as one list."""

    def __init__(self):
        self.slots = [set() for slot in range(6)]

    def answer(self, name, *handed):
        return getattr(self, "answer_" + name)(*handed)

    def missing(self, *slots):
        return any(slot not in (0, 1, 2, 3, 4, 5) for slot in slots)

    def keep(self, new, numbers):
        self.slots[new] = numbers
        return set_told(numbers)

    def answer_of(self, new, numbers):
        if self.missing(new):
            return [-2]
        if len(numbers) > 40 or any(abs(number) > BOUND for number in numbers):
            return [-1]
        return self.keep(new, set_hull(set(numbers)))

    def answer_parts(self, new, lo, hi, m, r, z):
        if self.missing(new):
            return [-2]
        if max(abs(lo), abs(hi), abs(r)) > BOUND or not 1 <= m <= BOUND or z not in (0, 1):
            return [-1]
        return self.keep(new, set_made_of(lo, hi, m, r, z))

    def answer_told(self, a):
        return [-2] if self.missing(a) else set_told(self.slots[a])

    def answer_has(self, a, number):
        return [-2] if self.missing(a) else [1 if number in self.slots[a] else 0]

    def answer_count(self, a):
        return [-2] if self.missing(a) else [len(self.slots[a])]

    def answer_first(self, a, n):
        if self.missing(a):
            return [-2]
        if not 0 <= n <= 50:
            return [-4]
        come = sorted(self.slots[a])[:n]
        return [len(come)] + come

    def of_two(self, reckon, new, a, b):
        return [-2] if self.missing(new, a, b) else self.keep(new, reckon(self.slots[a], self.slots[b]))

    def answer_join(self, new, a, b):
        return self.of_two(lambda one, other: set_hull(one | other), new, a, b)

    def answer_meet(self, new, a, b):
        return self.of_two(lambda one, other: one & other, new, a, b)

    def answer_plus(self, new, a, b):
        return self.of_two(set_plus, new, a, b)

    def answer_minus(self, new, a, b):
        return self.of_two(set_minus, new, a, b)

    def answer_times(self, new, a, b):
        return self.of_two(set_times, new, a, b)

    def answer_widen(self, new, a, b, thresholds):
        if not self.missing(new, a, b) and (len(thresholds) > 8 or any(abs(t) > BOUND for t in thresholds)):
            return [-1]
        return self.of_two(lambda one, other: set_widen(one, other, thresholds), new, a, b)

    def answer_within(self, a, b):
        return [-2] if self.missing(a, b) else [1 if self.slots[a] <= self.slots[b] else 0]

    def answer_rem(self, new, a, n):
        if self.missing(new, a):
            return [-2]
        return self.keep(new, set_rem(self.slots[a], n)) if 1 <= n <= 99 else [-4]

    def answer_test(self, which, new, other, a, b):
        if which not in (0, 1, 2, 3):
            return [-3]
        if self.missing(new, other, a, b) or new == other:
            return [-2]
        left, other_left = set_left(which, self.slots[a], self.slots[b])
        return self.keep(new, left) + self.keep(other, other_left)

    def answer_verdict(self, which, a, b):
        if which not in (0, 1, 2, 3):
            return [-3]
        return [-2] if self.missing(a, b) else [set_verdict(which, self.slots[a], self.slots[b])]
