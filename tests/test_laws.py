"""What holds of all edits, tried on every small edit of a small text."""

import itertools
import unittest

from tests.helper import apply, ask, compose, drops, get, keeps, painted, put_in, puts, rebase, text, turn

OLD = [97, 0, 98, 1]
AT_A = (keeps(1), painted(0, 2, 1), painted(0, 3, 1), drops((97, 0)))
AT_B = (keeps(1), painted(1, 2, 1), drops((98, 1)))


def edits_of_old(put):
    """Every edit of the text OLD that puts at most one letter at each place."""
    gaps = [[], put]
    return [sum(parts, []) for parts in itertools.product(gaps, AT_A, gaps, AT_B, gaps)]


ONES = edits_of_old(puts((88, 4)))
OTHERS = edits_of_old(puts((89, 5)))


class LawTest(unittest.TestCase):
    def test_both_ways_round_a_rebase_lead_to_one_text(self):
        for r, s in itertools.product(ONES, OTHERS):
            calls = [put_in(1, r), put_in(2, s)]
            for first in (0, 1):
                calls += [rebase(1, 2, 3, 4, first), text(OLD), apply(1), apply(4), text(OLD), apply(2), apply(3)]
            answered = ask(*calls)
            for at in (2, 9):
                self.assertEqual(len(answered[at]), 4)
                self.assertGreaterEqual(answered[at + 3][0], 0)
                self.assertEqual(answered[at + 3], answered[at + 6], (r, s, at))

    def test_both_ways_round_a_rebase_compose_to_one_edit(self):
        for r, s in itertools.product(ONES[::3], OTHERS):
            calls = [put_in(1, r), put_in(2, s), rebase(1, 2, 3, 4, 0)]
            answered = ask(*calls, compose(1, 4, 5), compose(2, 3, 6), get(5), get(6))
            self.assertEqual(answered[5], answered[6], (r, s))

    def test_who_is_called_r_does_not_matter(self):
        for r, s in itertools.product(ONES[::3], OTHERS):
            calls = [put_in(1, r), put_in(2, s), rebase(1, 2, 3, 4, 0), rebase(2, 1, 5, 6, 1)]
            answered = ask(*calls, get(3), get(6), get(4), get(5))
            self.assertEqual(answered[4], answered[5])
            self.assertEqual(answered[6], answered[7])

    def test_a_composition_does_what_the_two_do(self):
        for r, s in itertools.product(ONES[::3], OTHERS):
            # s carried over r is an edit of r's new text, so the two go together.
            calls = [put_in(1, r), put_in(2, s), rebase(1, 2, 3, 4, 0), compose(1, 4, 5)]
            answered = ask(*calls, text(OLD), apply(1), apply(4), text(OLD), apply(5))
            self.assertEqual(answered[6], answered[8], (r, s))
            self.assertGreaterEqual(answered[8][0], 0)

    def test_turned_round_an_edit_brings_the_old_text_back(self):
        for r in ONES:
            answered = ask(text(OLD), put_in(1, r), turn(1, 2), apply(1), apply(2), turn(2, 3), get(1), get(3))
            self.assertEqual(answered[1], answered[2][::-1])
            self.assertEqual(answered[4], [2] + OLD)
            self.assertEqual(answered[6], answered[7])

    def test_an_edit_behind_one_turned_round_is_the_composition_turned_round(self):
        for r, s in itertools.product(ONES[::3], OTHERS[::2]):
            calls = [put_in(1, r), put_in(2, s), turn(1, 3), compose(3, 2, 4), turn(2, 5), compose(5, 1, 6), turn(6, 6)]
            answered = ask(*calls, get(4), get(6))
            self.assertEqual(answered[7], answered[8], (r, s))
            self.assertGreaterEqual(answered[7][0], 0)


if __name__ == "__main__":
    unittest.main()
