"""Points 4 and 6: apply and turn."""

import unittest

from tests.helper import (
    CallCase, NOT_NAMES, apply, ask, drops, get, keeps, last, painted, put_in, puts, text, told_letters, turn, word,
)

A = (97, 0)
B = (98, 1)
C = (99, 2)
X = (88, 7)


class ApplyTest(CallCase):
    def assert_made(self, old, edit, new):
        """The answer is the new text, and the text held is that text."""
        n = len(new) // 2
        answered = ask(text(old), put_in(0, edit), apply(0), put_in(1, keeps(n)), apply(1))
        self.assertEqual(answered[2], [n] + new)
        self.assertEqual(answered[4], [n] + new)

    def test_each_kind_of_step(self):
        self.assert_made([97, 0, 98, 1], keeps(2), [97, 0, 98, 1])
        self.assert_made([97, 0, 98, 0], painted(0, 5, 2), [97, 5, 98, 5])
        self.assert_made([97, 0, 98, 1], keeps(1) + drops(B), [97, 0])
        self.assert_made([97, 0, 98, 1], keeps(1) + puts(X) + keeps(1), [97, 0, 88, 7, 98, 1])

    def test_the_example_of_the_document(self):
        edit = [0, 2, 3, 1, 88, 0, 2, 2, 99, 0, 100, 0, 0, 1]
        self.assert_made(word("abcde"), edit, word("abXe"))

    def test_the_empty_text_and_the_empty_edit(self):
        self.assert_made([], [], [])
        self.assert_made([], puts(A, X), [97, 0, 88, 7])
        self.assert_made([97, 0, 88, 7], drops(A, X), [])

    def test_it_can_be_applied_again(self):
        answered = ask(put_in(0, puts(A)), put_in(1, keeps(1) + puts(X)), apply(0), apply(1), apply(1))
        self.assertEqual(answered[2:], [[1, 97, 0], [2, 97, 0, 88, 7], [-3]])

    def test_the_edits_stay_as_they_were(self):
        self.assert_got([text([97, 0]), put_in(0, drops(A)), apply(0)], 0, drops(A))

    def test_the_longest(self):
        long = word("a" * 2000)
        self.assert_made(long, told_letters(2, [A] * 2000) + told_letters(3, [X] * 2000), [88, 7] * 2000)

    def test_names(self):
        for r in NOT_NAMES:
            self.assert_refused(apply(r), -2)

    def test_an_edit_that_does_not_fit(self):
        wrong = [
            [], keeps(2), keeps(4), keeps(2) + puts(X), keeps(3) + drops(C), drops(A), puts(A, B, C),
            keeps(2) + painted(1, 5, 1), painted(1, 5, 1) + keeps(2),
            keeps(2) + drops((10, 3)), keeps(2) + drops((65, 2)), drops(B) + keeps(2), painted(0, 5, 2) + keeps(1),
            keeps(2) + drops((10, 1)), drops((96, 0)) + keeps(2),
        ]
        for edit in wrong:
            self.assert_refused(apply(1), -3, before=[put_in(1, edit)])

    def test_names_are_looked_at_before_fitting(self):
        self.assertEqual(last(text([97, 0]), apply(10)), [-2])


class TurnTest(CallCase):
    def assert_turned(self, edit, turned, lengths):
        calls = [put_in(0, edit), turn(0, 1)]
        self.assertEqual(last(*calls), lengths)
        self.assert_got(calls, 1, turned)
        self.assert_got([put_in(0, edit), turn(0, 0)], 0, turned)

    def test_each_kind_of_step(self):
        self.assert_turned([], [], [0, 0])
        self.assert_turned(keeps(3), keeps(3), [3, 3])
        self.assert_turned(painted(1, 2, 3), painted(2, 1, 3), [3, 3])
        self.assert_turned(drops(A, B), puts(A, B), [0, 2])
        self.assert_turned(puts(A, B), drops(A, B), [2, 0])

    def test_the_outcome_is_in_its_form(self):
        self.assert_turned(
            keeps(1) + puts(A, X) + drops(B) + painted(3, 4, 1) + puts(C) + drops(A),
            keeps(1) + puts(B) + drops(A, X) + painted(4, 3, 1) + puts(A) + drops(C),
            [5, 4],
        )

    def test_the_other_edit_stays_as_it_was(self):
        self.assert_got([put_in(0, puts(A)), turn(0, 1)], 0, puts(A))

    def test_turned_twice_it_is_the_same(self):
        edit = puts(A, X) + drops(B, C) + painted(3, 4, 2) + keeps(2)
        self.assert_got([put_in(0, edit), turn(0, 1), turn(1, 2)], 2, edit)

    def test_it_brings_the_old_text_back(self):
        old = [97, 0, 98, 1, 99, 2]
        calls = [text(old), put_in(0, puts(X) + drops(A) + painted(1, 6, 1) + keeps(1)), turn(0, 1), apply(0), apply(1)]
        self.assertEqual(last(*calls), [3] + old)

    def test_the_text_stays_as_it_was(self):
        self.assertEqual(last(text([97, 0]), put_in(9, keeps(1)), turn(9, 1), apply(9)), [1, 97, 0])

    def test_names(self):
        for name in NOT_NAMES:
            self.assert_refused(turn(name, 1), -2)
            self.assert_refused(turn(1, name), -2)
            self.assert_refused(turn(name, name), -2)
        self.assertEqual(ask(turn(0, 9), turn(9, 0), get(9)), [[0, 0], [0, 0], [0]])


if __name__ == "__main__":
    unittest.main()
