"""What holds of places, stretches and edits made, tried on every small edit of a small text.

The letters of the text have unlike signs, none of them that of the letter put. So what was kept, and where it went,
is seen in the old and the new text alone.
"""

import itertools
import unittest

from tests.helper import (
    apply, ask, compose, drops, kept, keeps, painted, place, put_in, puts, rebase, repaint, replace, same, show,
    stretch, text, turn,
)

SIGNS = [97, 98, 99]
OLD = [97, 0, 98, 1, 99, 1]
X = (88, 4)
GAPS = ([], puts(X), puts(X, X))
STRETCHES = [(p, q) for p in range(4) for q in range(p, 4)]


def small_edits():
    at_each = [(keeps(1), painted(look, 7, 1), drops((sign, look))) for sign, look in zip(OLD[::2], OLD[1::2])]
    gaps = [GAPS[:2], GAPS, GAPS[:2], GAPS[::2]]
    parts = [gaps[0], at_each[0], gaps[1], at_each[1], gaps[2], at_each[2], gaps[3]]
    return [sum(edit, []) for edit in itertools.product(*parts)]


EDITS = small_edits()


def seen_kept(new):
    """The old and the new index of each kept letter, as the signs of the new text show them."""
    signs = new[1::2]
    return [(old, signs.index(sign)) for old, sign in enumerate(SIGNS) if sign in signs]


class PlaceLawTest(unittest.TestCase):
    def each(self, *calls):
        """For every small edit: the edit, the kept letters, the new length, and the answers to the calls."""
        for edit in EDITS:
            answered = ask(text(OLD), put_in(1, edit), *calls, apply(1))
            new = answered.pop()
            yield edit, seen_kept(new), new[0], answered[2:]

    def test_places(self):
        for edit, pairs, length, answered in self.each(*[place(1, p) for p in range(4)]):
            for p in range(4):
                backward = max([new + 1 for old, new in pairs if old < p], default=0)
                forward = min([new for old, new in pairs if old >= p], default=length)
                self.assertEqual(answered[p], [backward, forward], (edit, p))

    def test_a_stretch_lies_on_those_letters_that_are_left(self):
        asked = [(p, q, grows) for p, q in STRETCHES for grows in range(4)]
        for edit, pairs, length, answered in self.each(*[stretch(1, *each) for each in asked]):
            for (p, q, grows), (begin, end, count) in zip(asked, answered, strict=True):
                self.assertTrue(0 <= begin <= end <= length, (edit, p, q, grows))
                left = [new for old, new in pairs if p <= old < q]
                self.assertEqual([new for old, new in pairs if begin <= new < end], left, (edit, p, q, grows))
                self.assertEqual(count, len(left))

    def test_a_stretch_takes_puts_in_only_where_it_grows(self):
        asked = [(p, q, grows) for p, q in STRETCHES for grows in range(4)]
        for edit, pairs, length, answered in self.each(*[stretch(1, *each) for each in asked]):
            news = [new for old, new in pairs]
            for (p, q, grows), (begin, end, count) in zip(asked, answered, strict=True):
                if count == 0 and grows != 3:
                    self.assertEqual(begin, end, (edit, p, q, grows))
                    continue
                at_beginning = begin == 0 or begin - 1 in news if grows in (1, 3) else begin in news
                at_end = end == length or end in news if grows in (2, 3) else end - 1 in news
                self.assertTrue(at_beginning and at_end, (edit, p, q, grows))

    def test_kept_stretches(self):
        for edit, pairs, length, answered in self.each(kept(1)):
            told = answered[0]
            runs = [told[at:at + 3] for at in range(1, len(told), 3)]
            self.assertEqual(told[0], len(runs))
            self.assertEqual([(old + k, new + k) for old, new, n in runs for k in range(n)], pairs, edit)
            for one, other in zip(runs, runs[1:]):
                self.assertNotEqual((one[0] + one[2], one[1] + one[2]), (other[0], other[1]), edit)

    def test_turned_round_the_same_letters_are_kept(self):
        for edit, pairs, length, answered in self.each(kept(1), turn(1, 2), kept(2)):
            runs = [answered[0][at:at + 3] for at in range(1, len(answered[0]), 3)]
            self.assertEqual(answered[2], [len(runs)] + [number for old, new, n in runs for number in (new, old, n)])

    def test_same_is_told_by_both_ways_round_a_rebase(self):
        for r, s in itertools.product(EDITS[::29], EDITS[::31]):
            calls = [put_in(1, r), put_in(2, s), rebase(1, 2, 3, 4, 0), compose(1, 4, 5), compose(2, 3, 6), same(5, 6)]
            self.assertEqual(ask(*calls)[-1], [1], (r, s))

    def test_replace_and_apply(self):
        for (p, q), letters in itertools.product(STRETCHES, ([], [88, 4], [97, 0, 97, 0], [98, 1])):
            new = OLD[:2 * p] + letters + OLD[2 * q:]
            answered = ask(text(OLD), replace(1, p, q, letters), show(), apply(1))
            self.assertEqual(answered[1:], [[3, len(new) // 2], [3] + OLD, [len(new) // 2] + new])

    def test_repaint_and_apply(self):
        for (p, q), g in itertools.product(STRETCHES, (0, 1, 2, 99)):
            new = list(OLD)
            new[2 * p + 1:2 * q:2] = [g] * (q - p)
            answered = ask(text(OLD), repaint(1, p, q, g), show(), apply(1), kept(1))
            self.assertEqual(answered[1:], [[3, 3], [3] + OLD, [3] + new, [1, 0, 0, 3]])


if __name__ == "__main__":
    unittest.main()
