"""Point 7: rebase."""

import unittest

from tests.helper import (
    CallCase, FAR, NOT_NAMES, apply, ask, drops, get, keeps, last, painted, put_in, puts, rebase, text, told_letters,
)

A = (97, 0)
B = (98, 1)
C = (99, 2)
X = (88, 4)
Y = (89, 5)


def many(kind, letter, n):
    return told_letters(kind, [letter] * n)


class RebaseTest(CallCase):
    def assert_rebased(self, r, s, first, r_over, s_over, lengths):
        calls = [put_in(1, r), put_in(2, s), rebase(1, 2, 3, 4, first)]
        self.assertEqual(last(*calls), lengths)
        self.assert_got(calls, 3, r_over)
        self.assert_got(calls, 4, s_over)

    def assert_either_way(self, r, s, r_over, s_over, lengths):
        """The outcomes are the same whichever of the two is first, and whichever is called r."""
        turned_lengths = lengths[2:] + lengths[:2]
        for first in (0, 1):
            self.assert_rebased(r, s, first, r_over, s_over, lengths)
            self.assert_rebased(s, r, first, s_over, r_over, turned_lengths)

    def assert_apart(self, r, s):
        for first in (0, 1):
            for before in ([put_in(1, r), put_in(2, s)], [put_in(1, s), put_in(2, r)]):
                self.assert_refused(rebase(1, 2, 3, 4, first), -3, before)

    def test_the_empty_edits(self):
        self.assert_either_way([], [], [], [], [0, 0, 0, 0])

    def test_put_in_one(self):
        self.assert_either_way(puts(X), [], puts(X), keeps(1), [0, 1, 1, 1])
        self.assert_either_way(puts(X) + keeps(1), keeps(1), puts(X) + keeps(1), keeps(2), [1, 2, 2, 2])
        self.assert_either_way(keeps(1) + puts(X), keeps(1), keeps(1) + puts(X), keeps(2), [1, 2, 2, 2])
        self.assert_either_way(puts(X) + keeps(1), drops(A), puts(X), keeps(1) + drops(A), [0, 1, 2, 1])
        self.assert_either_way(
            puts(X) + keeps(1), painted(0, 3, 1), puts(X) + keeps(1), keeps(1) + painted(0, 3, 1), [1, 2, 2, 2],
        )

    def test_put_in_both(self):
        self.assert_rebased(puts(X), puts(Y), 0, puts(X) + keeps(1), keeps(1) + puts(Y), [1, 2, 1, 2])
        self.assert_rebased(puts(X), puts(Y), 1, keeps(1) + puts(X), puts(Y) + keeps(1), [1, 2, 1, 2])

    def test_all_puts_of_the_first_come_before_those_of_the_other(self):
        r = puts(X, A) + keeps(1)
        s = puts(Y, B, C) + keeps(1)
        self.assert_rebased(r, s, 0, puts(X, A) + keeps(4), keeps(2) + puts(Y, B, C) + keeps(1), [4, 6, 3, 6])
        self.assert_rebased(r, s, 1, keeps(3) + puts(X, A) + keeps(1), puts(Y, B, C) + keeps(3), [4, 6, 3, 6])

    def test_the_same_put_in_both_comes_twice(self):
        for first in (0, 1):
            calls = [put_in(1, puts(X)), put_in(2, puts(X)), rebase(1, 2, 3, 4, first), apply(2), apply(3)]
            self.assertEqual(last(*calls), [2, 88, 4, 88, 4])

    def test_keep_and_keep(self):
        self.assert_either_way(keeps(3), keeps(3), keeps(3), keeps(3), [3, 3, 3, 3])

    def test_keep_and_paint(self):
        self.assert_either_way(keeps(1), painted(2, 3, 1), keeps(1), painted(2, 3, 1), [1, 1, 1, 1])

    def test_keep_and_drop(self):
        self.assert_either_way(keeps(1), drops(A), [], drops(A), [0, 0, 1, 0])

    def test_paint_and_the_same_paint(self):
        self.assert_either_way(painted(2, 3, 1), painted(2, 3, 1), keeps(1), keeps(1), [1, 1, 1, 1])

    def test_paint_and_another_paint(self):
        self.assert_rebased(painted(2, 3, 1), painted(2, 4, 1), 0, painted(4, 3, 1), keeps(1), [1, 1, 1, 1])
        self.assert_rebased(painted(2, 3, 1), painted(2, 4, 1), 1, keeps(1), painted(3, 4, 1), [1, 1, 1, 1])

    def test_paints_from_unlike_looks_do_not_go_together(self):
        self.assert_apart(painted(2, 3, 1), painted(4, 3, 1))
        self.assert_apart(painted(2, 3, 1), painted(3, 2, 1))
        self.assert_apart(painted(2, 3, 1), painted(3, 4, 1))

    def test_paint_and_drop(self):
        self.assert_either_way(painted(0, 3, 1), drops(A), [], drops((97, 3)), [0, 0, 1, 0])
        self.assert_apart(painted(3, 0, 1), drops(A))
        self.assert_apart(painted(2, 3, 1), drops(A))
        self.assert_apart(painted(0, 3, 1), drops(B))
        self.assert_apart(painted(0, 1, 1), drops(B))

    def test_drop_and_drop(self):
        self.assert_either_way(drops(A), drops(A), [], [], [0, 0, 0, 0])
        self.assert_apart(drops(A), drops((97, 1)))
        self.assert_apart(drops(A), drops((98, 0)))

    def test_one_row_at_its_end_before_the_other(self):
        for taking in (keeps(1), painted(0, 3, 1), drops(A)):
            self.assert_apart(taking, [])
            self.assert_apart(taking, puts(X))
            self.assert_apart(puts(Y) + taking, puts(X))
            self.assert_apart(keeps(1) + taking, keeps(1))
            self.assert_apart(taking + puts(X), [])
            self.assert_apart(keeps(1) + taking, keeps(1) + puts(X))

    def test_the_rows_are_gone_through_in_their_forms(self):
        self.assert_rebased(drops(A) + puts(X), keeps(1) + puts(Y), 0, puts(X) + drops(A) + keeps(1),
                            keeps(1) + puts(Y), [2, 2, 1, 2])
        self.assert_rebased(drops(A) + puts(X), drops(A) + puts(Y), 1, keeps(1) + puts(X), puts(Y) + keeps(1),
                            [1, 2, 1, 2])

    def test_the_outcomes_are_brought_to_their_forms(self):
        self.assert_either_way(
            drops(A) + keeps(1) + puts(X), keeps(1) + drops(B),
            puts(X) + drops(A), drops(B) + keeps(1), [1, 1, 2, 1],
        )
        self.assert_either_way(
            keeps(1) + painted(1, 3, 1) + puts(X), drops(A) + drops(B),
            puts(X), drops(A, (98, 3)) + keeps(1), [0, 1, 3, 1],
        )

    def test_all_at_once(self):
        r = puts(X) + painted(0, 6, 1) + drops(B) + keeps(1) + puts(A)
        s = painted(0, 7, 1) + puts(Y) + keeps(1) + drops(C) + puts(B)
        self.assert_rebased(
            r, s, 0,
            puts(X) + painted(7, 6, 1) + keeps(1) + drops(B) + keeps(1) + puts(A),
            keeps(2) + puts(Y, B) + drops(C) + keeps(1),
            [4, 5, 4, 5],
        )
        self.assert_rebased(
            r, s, 1,
            puts(X) + keeps(2) + drops(B) + keeps(1) + puts(A),
            keeps(1) + painted(6, 7, 1) + puts(Y, B) + drops(C) + keeps(1),
            [4, 5, 4, 5],
        )

    def test_names(self):
        for name in NOT_NAMES:
            self.assert_refused(rebase(name, 9, 3, 4, 0), -2)
            self.assert_refused(rebase(9, name, 3, 4, 0), -2)
            self.assert_refused(rebase(9, 9, name, 4, 0), -2)
            self.assert_refused(rebase(9, 9, 3, name, 0), -2)
            self.assert_refused(rebase(9, 9, name, name, 0), -2)

    def test_first(self):
        for first in (-FAR, -1, 2, 3, FAR):
            self.assert_refused(rebase(9, 9, 3, 4, first), -2)

    def test_both_outcomes_in_one_place(self):
        for t in range(9):
            self.assert_refused(rebase(9, 9, t, t, 0), -2)
        self.assert_refused(rebase(9, 9, 9, 9, 1), -2)

    def test_the_outcomes_may_take_the_places_of_the_two(self):
        r = puts(X) + keeps(1)
        s = drops(A)
        r_over = puts(X)
        s_over = keeps(1) + drops(A)
        for t in (1, 2, 3):
            for u in (1, 2, 3):
                if t == u:
                    continue
                calls = [put_in(1, r), put_in(2, s), rebase(1, 2, t, u, 0)]
                self.assertEqual(last(*calls), [0, 1, 2, 1])
                held = {1: r, 2: s, 3: [], t: r_over, u: s_over}
                for name, edit in held.items():
                    self.assert_got(calls, name, edit)

    def test_an_edit_over_itself(self):
        calls = [put_in(1, puts(X) + keeps(1) + drops(A)), rebase(1, 1, 1, 2, 1)]
        self.assertEqual(last(*calls), [2, 3, 2, 3])
        self.assert_got(calls, 1, keeps(1) + puts(X) + keeps(1))
        self.assert_got(calls, 2, puts(X) + keeps(2))

    def test_greatest_new_lengths(self):
        r = many(3, X, 1000)
        s = many(3, Y, 1000)
        self.assert_rebased(r, s, 0, r + keeps(1000), keeps(1000) + s, [1000, 2000, 1000, 2000])
        self.assert_rebased(r, s, 1, keeps(1000) + r, s + keeps(1000), [1000, 2000, 1000, 2000])
        for first in (0, 1):
            self.assert_refused(rebase(1, 2, 3, 4, first), -5, [put_in(1, r + puts(X)), put_in(2, s)])
            self.assert_refused(rebase(1, 2, 3, 4, first), -5, [put_in(1, r), put_in(2, s + puts(Y))])

    def test_only_the_outcomes_lengths_count(self):
        r = many(2, A, 2000) + many(3, X, 2000)
        s = many(2, A, 2000)
        self.assert_rebased(r, s, 0, many(3, X, 2000), keeps(2000), [0, 2000, 2000, 2000])
        self.assert_refused(rebase(1, 2, 3, 4, 0), -5, [put_in(1, r), put_in(2, s + puts(Y))])

    def test_order_of_refusals(self):
        apart = [put_in(1, keeps(1)), put_in(2, keeps(2))]
        self.assert_refused(rebase(1, 2, 3, 4, 0), -3, apart)
        self.assert_refused(rebase(1, 2, 3, 10, 0), -2, apart)
        self.assert_refused(rebase(1, 2, 3, 4, 2), -2, apart)
        self.assert_refused(rebase(1, 2, 3, 3, 0), -2, apart)
        long = [put_in(1, many(3, X, 2000)), put_in(2, many(3, Y, 2000))]
        self.assert_refused(rebase(1, 2, 3, 4, 0), -5, long)
        self.assert_refused(rebase(1, 2, 3, 3, 0), -2, long)
        self.assert_refused(rebase(1, 2, 3, 4, -1), -2, long)
        both = [put_in(1, many(3, X, 2000) + drops(A)), put_in(2, many(3, Y, 2000))]
        self.assert_refused(rebase(1, 2, 3, 4, 0), -3, both)

    def test_the_text_and_the_other_edits_stay_as_they_were(self):
        calls = [text([97, 0]), put_in(9, keeps(1)), put_in(1, drops(A)), rebase(9, 1, 2, 3, 0), apply(9)]
        self.assertEqual(last(*calls), [1, 97, 0])
        self.assertEqual(ask(*calls, get(1), get(9), get(0))[5:], [[4] + drops(A), [2, 0, 1], [0]])


if __name__ == "__main__":
    unittest.main()
