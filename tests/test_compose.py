"""Point 5: compose."""

import unittest

from tests.helper import (
    CallCase, NOT_NAMES, apply, ask, compose, drops, get, keeps, last, painted, put_in, puts, text, told_letters,
)

A = (97, 0)
B = (98, 1)
X = (88, 4)
Y = (89, 5)


class ComposeTest(CallCase):
    def assert_composed(self, r, s, outcome, lengths):
        calls = [put_in(1, r), put_in(2, s), compose(1, 2, 3)]
        self.assertEqual(last(*calls), lengths)
        self.assert_got(calls, 3, outcome)

    def assert_apart(self, r, s):
        self.assert_refused(compose(1, 2, 3), -3, before=[put_in(1, r), put_in(2, s)])

    def test_the_empty_edits(self):
        self.assert_composed([], [], [], [0, 0])

    def test_drops_of_the_one_and_puts_of_the_other_need_no_other(self):
        self.assert_composed(drops(A, B), [], drops(A, B), [2, 0])
        self.assert_composed([], puts(X, Y), puts(X, Y), [0, 2])
        self.assert_composed(drops(A), puts(X), puts(X) + drops(A), [1, 1])
        self.assert_composed(keeps(1) + drops(A), keeps(1) + puts(X), keeps(1) + puts(X) + drops(A), [2, 2])

    def test_keep_and_a_step(self):
        self.assert_composed(keeps(1), keeps(1), keeps(1), [1, 1])
        self.assert_composed(keeps(1), painted(2, 3, 1), painted(2, 3, 1), [1, 1])
        self.assert_composed(keeps(1), drops(X), drops(X), [1, 0])

    def test_paint_and_keep(self):
        self.assert_composed(painted(2, 3, 1), keeps(1), painted(2, 3, 1), [1, 1])

    def test_paint_and_paint(self):
        self.assert_composed(painted(2, 3, 1), painted(3, 4, 1), painted(2, 4, 1), [1, 1])
        self.assert_composed(painted(2, 3, 1), painted(3, 2, 1), keeps(1), [1, 1])
        self.assert_apart(painted(2, 3, 1), painted(2, 3, 1))
        self.assert_apart(painted(2, 3, 1), painted(2, 4, 1))
        self.assert_apart(painted(2, 3, 1), painted(4, 3, 1))

    def test_paint_and_drop(self):
        self.assert_composed(painted(2, 3, 1), drops((97, 3)), drops((97, 2)), [1, 0])
        self.assert_apart(painted(2, 3, 1), drops((97, 2)))
        self.assert_apart(painted(2, 3, 1), drops((97, 4)))
        # A sign that is the same number as a look is still none.
        self.assert_apart(painted(2, 97, 1), drops((97, 4)))
        self.assert_composed(painted(2, 97, 1), drops((97, 97)), drops((97, 2)), [1, 0])

    def test_put_and_keep(self):
        self.assert_composed(puts(X), keeps(1), puts(X), [0, 1])

    def test_put_and_paint(self):
        self.assert_composed(puts(X), painted(4, 9, 1), puts((88, 9)), [0, 1])
        self.assert_apart(puts(X), painted(5, 9, 1))
        self.assert_apart(puts(X), painted(9, 4, 1))
        self.assert_apart(puts(X), painted(88, 4, 1))
        self.assert_apart(puts(X), painted(3, 9, 1))

    def test_put_and_drop(self):
        self.assert_composed(puts(X), drops(X), [], [0, 0])
        self.assert_apart(puts(X), drops((88, 5)))
        self.assert_apart(puts(X), drops((89, 4)))
        self.assert_apart(puts((88, 97)), drops((97, 4)))

    def test_one_row_at_its_end_before_the_other(self):
        for bringing in (keeps(1), painted(2, 3, 1), puts(X)):
            self.assert_apart(bringing, [])
            self.assert_apart(bringing, puts(Y))
            self.assert_apart(keeps(1) + bringing, keeps(1))
            self.assert_apart(bringing + drops(A), [])
        for taking in (keeps(1), painted(2, 3, 1), drops(X)):
            self.assert_apart([], taking)
            self.assert_apart(drops(A), taking)
            self.assert_apart(keeps(1), keeps(1) + taking)
            self.assert_apart([], puts(Y) + taking)

    def test_the_outcome_is_in_its_form(self):
        self.assert_composed(drops(A) + keeps(1), keeps(1) + puts(X), drops(A) + keeps(1) + puts(X), [2, 2])
        self.assert_composed(
            drops(A) + keeps(2), puts(X) + drops(B) + keeps(1), puts(X) + drops(A, B) + keeps(1), [3, 2],
        )
        self.assert_composed(keeps(2), drops(A, B), drops(A, B), [2, 0])
        self.assert_composed(keeps(1) + puts(X), drops(A) + keeps(1), puts(X) + drops(A), [1, 1])

    def test_puts_stand_in_the_order_of_the_new_text(self):
        self.assert_composed(puts(A, B), keeps(1) + puts(X) + keeps(1) + puts(Y), puts(A, X, B, Y), [0, 4])
        self.assert_composed(puts(A, B), puts(X) + drops(A) + keeps(1), puts(X, B), [0, 2])

    def test_parts_of_unlike_lengths(self):
        self.assert_composed(
            keeps(2) + puts(X, Y) + drops(A) + painted(1, 2, 2),
            painted(0, 6, 1) + keeps(2) + painted(5, 7, 1) + painted(2, 3, 1) + drops((90, 2)),
            painted(0, 6, 1) + keeps(1) + puts(X, (89, 7)) + drops(A) + painted(1, 3, 1) + drops((90, 1)),
            [5, 5],
        )

    def test_it_does_what_the_two_do(self):
        r = puts(X) + drops(A) + painted(1, 6, 1)
        s = keeps(1) + puts(Y) + drops((98, 6))
        before = [text([97, 0, 98, 1]), put_in(1, r), put_in(2, s), compose(1, 2, 3)]
        self.assertEqual(last(*before, apply(3)), [2, 88, 4, 89, 5])
        self.assertEqual(last(*before, apply(1), apply(2)), [2, 88, 4, 89, 5])

    def test_the_outcome_may_take_the_place_of_either(self):
        r = painted(2, 3, 1)
        s = painted(3, 4, 1)
        for t in (1, 2, 3):
            calls = [put_in(1, r), put_in(2, s), compose(1, 2, t)]
            self.assertEqual(last(*calls), [1, 1])
            held = {1: r, 2: s, 3: [], t: painted(2, 4, 1)}
            for name, edit in held.items():
                self.assert_got(calls, name, edit)

    def test_an_edit_with_itself(self):
        self.assert_got([put_in(0, keeps(1)), compose(0, 0, 0)], 0, keeps(1))
        self.assertEqual(last(put_in(0, painted(1, 2, 1)), compose(0, 0, 0)), [-3])

    def test_the_longest(self):
        r = told_letters(2, [A] * 2000)
        s = told_letters(3, [X] * 2000)
        self.assert_composed(r, s, s + r, [2000, 2000])

    def test_names(self):
        for name in NOT_NAMES:
            self.assert_refused(compose(name, 1, 2), -2)
            self.assert_refused(compose(1, name, 2), -2)
            self.assert_refused(compose(1, 9, name), -2)
        self.assertEqual(ask(compose(0, 9, 9), compose(9, 0, 0), get(0)), [[0, 0], [0, 0], [0]])

    def test_names_are_looked_at_before_going_together(self):
        before = [put_in(1, keeps(1)), put_in(2, keeps(2))]
        self.assert_refused(compose(1, 2, 3), -3, before)
        self.assert_refused(compose(1, 2, 10), -2, before)


if __name__ == "__main__":
    unittest.main()
