"""The calls on six slots, and their answers."""

from knownof.comparing import TESTS, left_of_both, verdict
from knownof.reckoning import is_within, join, meet, minus, plus, rem, times, widen
from knownof.value import BOUND, few_of, first_numbers, has, hull, is_beyond, made_of, told

SLOTS = 6
MOST_LISTED = 40
MOST_FIRST = 50
MOST_THRESHOLDS = 8
MOST_DIVISOR = 99

OUT_OF_RANGE = -1
NO_SLOT = -2
NO_TEST = -3
NO_COUNT = -4

# By a call's number: how many whole numbers it has, and which of them are slots: from where on, and up to where.
WHOLE_NUMBERS = (1, 6, 1, 2, 1, 2, 3, 3, 3, 2, 3, 3, 3, 3, 5, 3)
SLOTS_FROM = (0, 0, 0, 0, 0, 0, 0, 0, 0, 0, 0, 0, 0, 0, 1, 1)
SLOTS_UP_TO = (1, 1, 1, 1, 1, 1, 3, 3, 3, 2, 3, 3, 3, 2, 5, 3)

# The row of such a call is handed on behind its whole numbers, without its length.
CALLS_WITH_A_ROW = (0, 8)

# The first whole number of such a call is the test.
CALLS_WITH_A_TEST = (14, 15)


def keep(slots, new, value):
    slots[new] = value
    return told(value)


def answer_of(slots, handed):
    numbers = handed[1:]
    if len(numbers) > MOST_LISTED or any([is_beyond(number) for number in numbers]):
        return [OUT_OF_RANGE]
    return keep(slots, handed[0], hull(numbers))


def answer_parts(slots, handed):
    lo = handed[1]
    hi = handed[2]
    modulus = handed[3]
    remainder = handed[4]
    zero = handed[5]
    if is_beyond(lo) or is_beyond(hi) or is_beyond(remainder):
        return [OUT_OF_RANGE]
    if modulus < 1 or modulus > BOUND or zero < 0 or zero > 1:
        return [OUT_OF_RANGE]
    return keep(slots, handed[0], made_of(lo, hi, modulus, remainder, zero))


def answer_told(slots, handed):
    return told(slots[handed[0]])


def answer_has(slots, handed):
    return [1 if has(slots[handed[0]], handed[1]) else 0]


def answer_count(slots, handed):
    return [slots[handed[0]].size]


def answer_first(slots, handed):
    limit = handed[1]
    if limit < 0 or limit > MOST_FIRST:
        return [NO_COUNT]
    numbers = first_numbers(slots[handed[0]], limit)
    return [len(numbers)] + numbers


def answer_join(slots, handed):
    return keep(slots, handed[0], join(slots[handed[1]], slots[handed[2]]))


def answer_meet(slots, handed):
    return keep(slots, handed[0], meet(slots[handed[1]], slots[handed[2]]))


def answer_widen(slots, handed):
    thresholds = handed[3:]
    if len(thresholds) > MOST_THRESHOLDS or any([is_beyond(threshold) for threshold in thresholds]):
        return [OUT_OF_RANGE]
    return keep(slots, handed[0], widen(slots[handed[1]], slots[handed[2]], thresholds))


def answer_within(slots, handed):
    return [1 if is_within(slots[handed[0]], slots[handed[1]]) else 0]


def answer_plus(slots, handed):
    return keep(slots, handed[0], plus(slots[handed[1]], slots[handed[2]]))


def answer_minus(slots, handed):
    return keep(slots, handed[0], minus(slots[handed[1]], slots[handed[2]]))


def answer_times(slots, handed):
    return keep(slots, handed[0], times(slots[handed[1]], slots[handed[2]]))


def answer_rem(slots, handed):
    divisor = handed[2]
    if divisor < 1 or divisor > MOST_DIVISOR:
        return [NO_COUNT]
    return keep(slots, handed[0], rem(slots[handed[1]], divisor))


def answer_test(slots, handed):
    new = handed[1]
    other_new = handed[2]
    if new == other_new:
        return [NO_SLOT]
    # Either new slot may be one of those that are tested, so both are looked at ahead of keeping.
    pair = left_of_both(handed[0], slots[handed[3]], slots[handed[4]])
    return keep(slots, new, pair[0]) + keep(slots, other_new, pair[1])


def answer_verdict(slots, handed):
    return [verdict(handed[0], slots[handed[1]], slots[handed[2]])]


ANSWERERS = (
    answer_of,
    answer_parts,
    answer_told,
    answer_has,
    answer_count,
    answer_first,
    answer_join,
    answer_meet,
    answer_widen,
    answer_within,
    answer_plus,
    answer_minus,
    answer_times,
    answer_rem,
    answer_test,
    answer_verdict,
)


def answer_call(slots, call, handed):
    """What one call answers. A test, then a slot, that isn't there is refused ahead of all else, so it is here."""
    if call in CALLS_WITH_A_TEST and (handed[0] < 0 or handed[0] >= TESTS):
        return [NO_TEST]
    for slot in handed[SLOTS_FROM[call]:SLOTS_UP_TO[call]]:
        if slot < 0 or slot >= SLOTS:
            return [NO_SLOT]
    answerer = ANSWERERS[call]
    return answerer(slots, handed)


def answers(calls):
    """The answers of the calls that stand in one list one behind another, each with its length before it."""
    slots = [few_of([]) for slot in range(SLOTS)]
    given = []
    place = 0
    while place < len(calls):
        call = calls[place]
        end = place + 1 + WHOLE_NUMBERS[call]
        handed = calls[place + 1:end]
        if call in CALLS_WITH_A_ROW:
            row_length = calls[end]
            handed = handed + calls[end + 1:end + 1 + row_length]
            end += 1 + row_length
        answer = answer_call(slots, call, handed)
        given.append(len(answer))
        given.extend(answer)
        place = end
    return given
