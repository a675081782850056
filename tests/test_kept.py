"""Point 11: kept."""

import unittest

from tests.helper import (
    CallCase, NOT_NAMES, ask, drops, get, kept, keeps, last, painted, put_in, puts, show, text, told_letters, word,
)

A = (97, 0)
B = (98, 0)
X = (88, 0)
Y = (89, 0)


class KeptTest(CallCase):
    def assert_kept(self, edit, *stretches):
        self.assertEqual(last(put_in(1, edit), kept(1)), [len(stretches)] + sum(map(list, stretches), []))

    def test_no_kept_letter(self):
        self.assert_kept([])
        self.assert_kept(puts(X))
        self.assert_kept(drops(A))
        self.assert_kept(puts(X, Y) + drops(A, B))

    def test_one_stretch(self):
        self.assert_kept(keeps(1), (0, 0, 1))
        self.assert_kept(keeps(5), (0, 0, 5))
        self.assert_kept(keeps(2) + keeps(3), (0, 0, 5))
        self.assert_kept(painted(1, 2, 3), (0, 0, 3))
        self.assert_kept(keeps(2000), (0, 0, 2000))

    def test_keeps_and_paints_in_one_stretch(self):
        self.assert_kept(keeps(1) + painted(1, 2, 1), (0, 0, 2))
        self.assert_kept(painted(1, 2, 2) + painted(2, 3, 1) + keeps(1) + painted(1, 2, 1), (0, 0, 5))

    def test_puts_and_drops_before_it_and_behind_it(self):
        self.assert_kept(puts(X, Y) + keeps(3), (0, 2, 3))
        self.assert_kept(drops(A) + keeps(3), (1, 0, 3))
        self.assert_kept(puts(X, Y) + drops(A) + keeps(3) + puts(X) + drops(A, B), (1, 2, 3))
        self.assert_kept(keeps(3) + puts(X), (0, 0, 3))
        self.assert_kept(keeps(3) + drops(A), (0, 0, 3))

    def test_parted_by_a_put(self):
        self.assert_kept(keeps(2) + puts(X) + keeps(3), (0, 0, 2), (2, 3, 3))
        self.assert_kept(painted(1, 2, 2) + puts(X, Y) + painted(1, 2, 3), (0, 0, 2), (2, 4, 3))

    def test_parted_by_a_drop(self):
        self.assert_kept(keeps(2) + drops(A) + keeps(3), (0, 0, 2), (3, 2, 3))
        self.assert_kept(painted(1, 2, 2) + drops(A, B) + painted(1, 2, 3), (0, 0, 2), (4, 2, 3))

    def test_parted_by_both(self):
        self.assert_kept(keeps(2) + puts(X) + drops(A) + keeps(3), (0, 0, 2), (3, 3, 3))
        self.assert_kept(keeps(2) + drops(A) + puts(X) + keeps(3), (0, 0, 2), (3, 3, 3))
        self.assert_kept(keeps(2) + puts(X, Y) + drops(A) + painted(4, 5, 3), (0, 0, 2), (3, 4, 3))

    def test_many_stretches(self):
        self.assert_kept(
            puts(X) + keeps(1) + drops(A) + painted(1, 2, 1) + keeps(1) + puts(X) + keeps(2) + puts(Y) + drops(B, A)
            + keeps(1) + drops(B),
            (0, 1, 1), (2, 2, 2), (4, 5, 2), (8, 8, 1),
        )
        edit = (keeps(1) + drops(A)) * 1000
        self.assert_kept(edit, *[(2 * n, n, 1) for n in range(1000)])

    def test_no_kept_letter_in_the_longest(self):
        self.assert_kept(told_letters(3, [X] * 2000) + told_letters(2, [A] * 2000))

    def test_it_changes_nothing(self):
        calls = [text(word("ab")), put_in(1, drops(A) + keeps(1)), kept(1)]
        self.assertEqual(ask(*calls, get(1), show())[3:], [[6] + drops(A) + keeps(1), [2] + word("ab")])

    def test_names(self):
        for name in NOT_NAMES:
            self.assert_refused(kept(name), -2)
        self.assertEqual(ask(kept(0), kept(9)), [[0], [0]])


if __name__ == "__main__":
    unittest.main()
