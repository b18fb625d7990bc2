"""The calls on six slots, and their answers."""

from knownof.reckoning import join, meet
from knownof.value import BOUND, few_of, first_numbers, has, hull, is_beyond, made_of, told

SLOTS = 6
MOST_LISTED = 40
MOST_FIRST = 50

OUT_OF_RANGE = -1
NO_SLOT = -2
NO_COUNT = -4

# By a call's number: how many whole numbers it has, and how many of them, from the first one on, are slots.
WHOLE_NUMBERS = (1, 6, 1, 2, 1, 2, 3, 3)
SLOT_NUMBERS = (1, 1, 1, 1, 1, 1, 3, 3)

# The row of such a call is handed on behind its whole numbers, without its length.
CALLS_WITH_A_ROW = (0,)


def keep(slots, new, value):
    slots[new] = value
    return told(value)


def answer_of(slots, handed):
    numbers = handed[1:]
    if len(numbers) > MOST_LISTED or any([is_beyond(number) for number in numbers]):
        return [OUT_OF_RANGE]
    return keep(slots, handed[0], hull(numbers))


def answer_parts(slots, handed):
    lo = handed[1]
    hi = handed[2]
    modulus = handed[3]
    remainder = handed[4]
    zero = handed[5]
    if is_beyond(lo) or is_beyond(hi) or is_beyond(remainder):
        return [OUT_OF_RANGE]
    if modulus < 1 or modulus > BOUND or zero < 0 or zero > 1:
        return [OUT_OF_RANGE]
    return keep(slots, handed[0], made_of(lo, hi, modulus, remainder, zero))


def answer_told(slots, handed):
    return told(slots[handed[0]])


def answer_has(slots, handed):
    return [1 if has(slots[handed[0]], handed[1]) else 0]


def answer_count(slots, handed):
    return [slots[handed[0]].size]


def answer_first(slots, handed):
    limit = handed[1]
    if limit < 0 or limit > MOST_FIRST:
        return [NO_COUNT]
    numbers = first_numbers(slots[handed[0]], limit)
    return [len(numbers)] + numbers


def answer_join(slots, handed):
    return keep(slots, handed[0], join(slots[handed[1]], slots[handed[2]]))


def answer_meet(slots, handed):
    return keep(slots, handed[0], meet(slots[handed[1]], slots[handed[2]]))


ANSWERERS = (
    answer_of,
    answer_parts,
    answer_told,
    answer_has,
    answer_count,
    answer_first,
    answer_join,
    answer_meet,
)


def answer_call(slots, call, handed):
    """What one call answers. A slot that isn't there is refused ahead of all else, so it is looked at here."""
    for slot in handed[:SLOT_NUMBERS[call]]:
        if slot < 0 or slot >= SLOTS:
            return [NO_SLOT]
    answerer = ANSWERERS[call]
    return answerer(slots, handed)


def answers(calls):
    """The answers of the calls that stand in one list one behind another, each with its length before it."""
    slots = [few_of([]) for slot in range(SLOTS)]
    given = []
    place = 0
    while place < len(calls):
        call = calls[place]
        end = place + 1 + WHOLE_NUMBERS[call]
        handed = calls[place + 1:end]
        if call in CALLS_WITH_A_ROW:
            row_length = calls[end]
            handed = handed + calls[end + 1:end + 1 + row_length]
            end += 1 + row_length
        answer = answer_call(slots, call, handed)
        given.append(len(answer))
        given.extend(answer)
        place = end
    return given
