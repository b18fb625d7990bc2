"""Lists of a hundred calls that mix all sixteen, drawn and compared with plain sets."""

import random
import unittest

from knownof.knowledge import answers
from tests.compared import STEP, Compared, drawn_small, drawn_wide, fill, written
from tests.helper import BOUND, FAR
from tests.plain import PlainSlots

CALLS = 100
# Plain sets that are larger than this would take long to reckon with.
LARGE = 3000
OF_TWO = ("join", "meet", "plus", "minus", "times")


class Drawing:
    """Draws one list of calls, following it with plain sets so that they don't grow too large."""

    def __init__(self, chance, wide):
        self.chance = chance
        self.wide = wide
        self.plain = PlainSlots()
        self.calls = []
        self.expected = []

    def slot(self):
        return self.chance.choice((-1, 6, FAR, -FAR)) if self.chance.random() < 0.01 else self.chance.randint(0, 5)

    def number(self):
        scale = STEP if self.wide else 1
        return scale * self.chance.randint(-20, 20)

    def sometimes(self, rare, usual):
        return self.chance.choice(rare) if self.chance.random() < 0.05 else usual

    def filling(self):
        call = fill(self.slot(), drawn_wide(self.chance) if self.wide else drawn_small(self.chance))
        if call[0] == "of":
            return self.sometimes((("of", self.slot(), [5] * 41), ("of", self.slot(), [1, BOUND + 1])), call)
        return self.sometimes((("parts", *call[1:5], FAR, 1), ("parts", *call[1:4], 0, 0, 1)), call)

    def widening(self):
        # Without the outer two, an end that moves mostly goes to the bound, and the set is large.
        thresholds = [-BOUND if self.wide else -900, self.number(), BOUND if self.wide else 900]
        thresholds += [self.number() for turn in range(self.chance.randint(0, 5))]
        self.chance.shuffle(thresholds)
        thresholds = self.sometimes(([0] * 9, [FAR], [-BOUND - 1], []), thresholds)
        return ("widen", self.slot(), self.slot(), self.slot(), thresholds)

    def testing(self):
        which = self.sometimes((-1, 4, FAR, -FAR), self.chance.randint(0, 3))
        return ("test", which, self.slot(), self.slot(), self.slot(), self.slot())

    def asking(self):
        which = self.sometimes((-1, 4, FAR, -FAR), self.chance.randint(0, 3))
        return self.chance.choice((
            ("told", self.slot()), ("has", self.slot(), self.sometimes((FAR, -FAR), self.number())),
            ("count", self.slot()), ("first", self.slot(), self.sometimes((-1, 51, FAR), self.chance.randint(0, 50))),
            ("within", self.slot(), self.slot()), ("verdict", which, self.slot(), self.slot())))

    def remainder(self):
        return ("rem", self.slot(), self.slot(), self.sometimes((0, 100, -1, FAR), self.chance.randint(1, 99)))

    def of_two(self):
        return (self.chance.choice(OF_TWO), self.slot(), self.slot(), self.slot())

    def next_call(self):
        large = [slot for slot in range(6) if len(self.plain.slots[slot]) > LARGE]
        if large:
            return fill(large[0], drawn_wide(self.chance) if self.wide else drawn_small(self.chance))
        draw = self.chance.choice((
            self.filling, self.filling, self.of_two, self.of_two, self.of_two, self.widening, self.testing,
            self.asking, self.asking, self.remainder))
        return draw()

    def draw(self):
        while len(self.calls) < CALLS:
            call = self.next_call()
            self.calls.append(call)
            self.expected.append(self.plain.answer(*call))
        return self


def drawn_line(seed):
    return Drawing(random.Random(seed), seed % 3 == 0).draw()


class AgainstPlainSets(Compared):
    def test_lines(self):
        for seed in range(80):
            line = drawn_line(seed)
            handed = [number for call in line.calls for number in written(call)]
            kept = list(handed)
            given = answers(handed)
            self.assertEqual(given, [n for answer in line.expected for n in [len(answer)] + answer], line.calls)
            self.assertEqual(handed, kept)
            self.assertEqual(answers(handed), given)

    def test_they_mix_all_calls_refusals_and_values(self):
        lines = [drawn_line(seed) for seed in range(12)]
        self.assertEqual(len({call[0] for line in lines for call in line.calls}), 16)
        firsts = {answer[0] for line in lines for answer in line.expected}
        self.assertLessEqual({-4, -3, -2, -1, 0, 1, 2}, firsts)
        kept = [len(slot) for line in lines for slot in line.plain.slots]
        self.assertTrue(min(kept) == 0 and max(kept) > 6)


if __name__ == "__main__":
    unittest.main()
