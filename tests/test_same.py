"""Point 8: same."""

import itertools
import unittest

from tests.helper import (
    CallCase, NOT_NAMES, apply, ask, compose, drops, get, keeps, last, painted, put_in, puts, rebase, same, text,
    told_letters, turn,
)

A = (97, 0)
B = (98, 1)
X = (88, 4)
Y = (89, 5)

# No two of these are the same, and many pairs differ in one step or in one number of a step.
UNLIKE = [
    [], keeps(1), keeps(2), painted(0, 1, 1), painted(0, 2, 1), painted(2, 1, 1), painted(1, 0, 1), painted(0, 1, 2),
    drops(A), drops((97, 1)), drops((98, 0)), puts(A), puts((97, 1)), puts((98, 0)), drops(A, B), drops(B, A),
    puts(A, B), puts(B, A), puts(X) + drops(A), puts(A) + drops(X), puts(X) + keeps(1), keeps(1) + puts(X),
    drops(A) + keeps(1), keeps(1) + drops(A), keeps(1) + painted(0, 1, 1), painted(0, 1, 1) + keeps(1),
    keeps(1) + puts(X) + keeps(1), keeps(1) + drops(A) + keeps(1), puts(X) + drops(A) + keeps(1),
    puts(X) + keeps(1) + drops(A), drops(A) + keeps(1) + puts(X),
]


class SameTest(CallCase):
    def assert_same(self, one, other, answer=1):
        self.assertEqual(ask(put_in(1, one), put_in(2, other), same(1, 2), same(2, 1))[2:], [[answer]] * 2)

    def test_an_edit_and_itself(self):
        for edit in UNLIKE:
            self.assertEqual(last(put_in(4, edit), same(4, 4)), [1])
            self.assert_same(edit, edit)

    def test_unlike_edits(self):
        for one, other in itertools.combinations(UNLIKE, 2):
            self.assert_same(one, other, 0)

    def test_a_new_object_has_ten_edits_that_are_the_same(self):
        self.assertEqual(ask(*[same(r, s) for r in range(10) for s in range(10)]), [[1]] * 100)

    def test_the_empty_edit(self):
        self.assertEqual(last(put_in(1, keeps(1)), put_in(1, []), same(1, 2)), [1])
        self.assertEqual(last(put_in(1, keeps(1)), same(1, 2)), [0])

    def test_drops_before_puts(self):
        self.assert_same(drops(A) + puts(X), puts(X) + drops(A))
        self.assert_same(drops(A) + puts(X) + drops(B) + puts(Y), puts(X, Y) + drops(A, B))
        for kept in (keeps(1), painted(1, 2, 1)):
            self.assert_same(kept + drops(A) + puts(X) + kept, kept + puts(X) + drops(A) + kept)
            self.assert_same(drops(A) + puts(X) + kept, puts(X) + drops(A) + kept)
            self.assert_same(kept + drops(A) + puts(X), kept + puts(X) + drops(A))

    def test_the_order_of_puts_and_that_of_drops_counts(self):
        self.assert_same(drops(A) + puts(X) + drops(B) + puts(Y), puts(Y, X) + drops(A, B), 0)
        self.assert_same(drops(A) + puts(X) + drops(B) + puts(Y), puts(X, Y) + drops(B, A), 0)

    def test_neighbouring_parts_of_one_kind(self):
        self.assert_same(keeps(1) + keeps(2), keeps(3))
        self.assert_same(painted(1, 2, 1) + painted(1, 2, 2), painted(1, 2, 3))
        self.assert_same(drops(A) + drops(B), drops(A, B))
        self.assert_same(puts(A) + puts(B), puts(A, B))

    def test_the_same_text_made_in_another_way(self):
        self.assert_same(drops(A) + puts(A), keeps(1), 0)
        self.assert_same(painted(0, 1, 1), drops(A) + puts((97, 1)), 0)

    def test_edits_of_one_step_more(self):
        long = told_letters(3, [X] * 1999)
        self.assert_same(long + puts(X), long + puts(X))
        self.assert_same(long + puts(X), long, 0)
        self.assert_same(long + puts(X), long + puts(Y), 0)

    def test_edits_that_calls_have_made(self):
        calls = [put_in(1, puts(X) + drops(A)), turn(1, 2), turn(2, 3), same(1, 3), same(1, 2)]
        self.assertEqual(ask(*calls)[3:], [[1], [0]])
        calls = [put_in(1, painted(2, 3, 1)), turn(1, 2), compose(1, 2, 3), put_in(4, keeps(1)), same(3, 4)]
        self.assertEqual(last(*calls), [1])
        calls = [put_in(1, drops(A)), put_in(2, puts(X) + keeps(1)), rebase(1, 2, 3, 4, 0)]
        self.assertEqual(last(*calls, compose(1, 4, 5), compose(2, 3, 6), same(5, 6)), [1])

    def test_keeps_that_a_rebase_has_made(self):
        r = puts(X) + keeps(1) + painted(0, 1, 1) + painted(0, 2, 1)
        s = puts(Y) + painted(0, 1, 1) + painted(0, 1, 1) + painted(0, 3, 1)
        r_over = (puts(X) + keeps(3) + painted(3, 2, 1), keeps(1) + puts(X) + keeps(3))
        s_over = (keeps(1) + puts(Y) + painted(0, 1, 1) + keeps(2), puts(Y) + keeps(1) + painted(0, 1, 1) + keeps(1)
                  + painted(2, 3, 1))
        for first in (0, 1):
            made = [put_in(1, r), put_in(2, s), rebase(1, 2, 3, 4, first)]
            told = [put_in(5, r_over[first]), put_in(6, s_over[first])]
            self.assertEqual(ask(*made, *told, same(3, 5), same(4, 6))[5:], [[1], [1]])
            made = [put_in(1, s), put_in(2, r), rebase(1, 2, 4, 3, 1 - first)]
            self.assertEqual(ask(*made, *told, same(3, 5), same(4, 6))[5:], [[1], [1]])

    def test_it_changes_nothing(self):
        calls = [text([97, 0]), put_in(1, drops(A)), put_in(2, keeps(1)), same(1, 2), same(2, 2)]
        self.assertEqual(ask(*calls, get(1), get(2), apply(2))[5:], [[4] + drops(A), [2, 0, 1], [1, 97, 0]])

    def test_names(self):
        for name in NOT_NAMES:
            self.assert_refused(same(name, 1), -2)
            self.assert_refused(same(1, name), -2)
            self.assert_refused(same(name, name), -2)
        self.assertEqual(ask(same(0, 9), same(9, 0)), [[1], [1]])


if __name__ == "__main__":
    unittest.main()
