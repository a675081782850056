"""Points 9 and 10: place and stretch."""

import unittest

from tests.helper import (
    CallCase, FAR, NOT_NAMES, ask, drops, get, keeps, last, painted, place, put_in, puts, show, stretch, text,
    told_letters, word,
)

A = (97, 0)
B = (98, 0)
C = (99, 0)
X = (88, 0)
Y = (89, 0)
EXAMPLE = [0, 2, 3, 1, 88, 0, 2, 2, 99, 0, 100, 0, 0, 1]


class PlaceTest(CallCase):
    def assert_places(self, edit, expected):
        """From 0 to the old length each place is carried as expected, and the ones beside are refused."""
        asked = [place(1, p) for p in range(-1, len(expected) + 1)]
        self.assertEqual(ask(put_in(1, edit), *asked)[1:], [[-1]] + expected + [[-1]])

    def test_the_example_of_the_document(self):
        self.assertEqual(last(put_in(0, EXAMPLE), place(0, 3)), [2, 3])
        self.assert_places(EXAMPLE, [[0, 0], [1, 1], [2, 3], [2, 3], [2, 3], [4, 4]])

    def test_the_empty_edit(self):
        self.assert_places([], [[0, 0]])

    def test_kept_letters_alone(self):
        self.assert_places(keeps(3), [[0, 0], [1, 1], [2, 2], [3, 3]])
        self.assert_places(painted(1, 2, 2), [[0, 0], [1, 1], [2, 2]])
        self.assert_places(keeps(1) + painted(1, 2, 1), [[0, 0], [1, 1], [2, 2]])

    def test_no_kept_letter(self):
        self.assert_places(puts(X, Y), [[0, 2]])
        self.assert_places(drops(A, B), [[0, 0], [0, 0], [0, 0]])
        self.assert_places(puts(X, Y, X) + drops(A, B), [[0, 3], [0, 3], [0, 3]])

    def test_before_the_first_kept_letter(self):
        for kept in (keeps(1), painted(1, 2, 1)):
            self.assert_places(puts(X, Y) + kept, [[0, 2], [3, 3]])
            self.assert_places(drops(A, B) + kept, [[0, 0], [0, 0], [0, 0], [1, 1]])
            self.assert_places(puts(X, Y) + drops(A) + kept, [[0, 2], [0, 2], [3, 3]])
            self.assert_places(drops(A) + puts(X, Y) + kept, [[0, 2], [0, 2], [3, 3]])

    def test_behind_the_last_kept_letter(self):
        for kept in (keeps(1), painted(1, 2, 1)):
            self.assert_places(kept + puts(X, Y), [[0, 0], [1, 3]])
            self.assert_places(kept + drops(A, B), [[0, 0], [1, 1], [1, 1], [1, 1]])
            self.assert_places(kept + puts(X, Y) + drops(A), [[0, 0], [1, 3], [1, 3]])
            self.assert_places(kept + drops(A) + puts(X, Y), [[0, 0], [1, 3], [1, 3]])

    def test_between_kept_letters(self):
        self.assert_places(keeps(1) + puts(X) + keeps(1), [[0, 0], [1, 2], [3, 3]])
        self.assert_places(keeps(1) + drops(A) + keeps(1), [[0, 0], [1, 1], [1, 1], [2, 2]])
        self.assert_places(
            puts(X) + drops(A) + keeps(1) + puts(X, Y) + drops(B, C) + painted(3, 4, 2) + puts(Y),
            [[0, 1], [0, 1], [2, 4], [2, 4], [2, 4], [5, 5], [6, 7]],
        )

    def test_places_that_are_none(self):
        for p in (-FAR, -1, 4, FAR):
            self.assert_refused(place(1, p), -1)
        # The old length counts, not the new one or that of the text.
        self.assert_refused(place(3, 4), -1)
        self.assert_refused(place(0, 3), -1)
        self.assertEqual(last(put_in(0, drops(A, B, C)), place(0, 3)), [0, 0])

    def test_the_longest(self):
        edit = told_letters(3, [X] * 2000) + told_letters(2, [A] * 2000)
        asked = [place(0, p) for p in (0, 1000, 2000, 2001)]
        self.assertEqual(ask(put_in(0, edit), *asked)[1:], [[0, 2000]] * 3 + [[-1]])
        self.assertEqual(last(put_in(0, keeps(2000)), place(0, 2000)), [2000, 2000])

    def test_it_changes_nothing(self):
        calls = [text(word("ab")), put_in(1, drops(A) + keeps(1)), place(1, 1)]
        self.assertEqual(ask(*calls, get(1), show())[3:], [[6] + drops(A) + keeps(1), [2] + word("ab")])

    def test_names(self):
        for name in NOT_NAMES:
            self.assert_refused(place(name, 0), -2)
        self.assertEqual(last(place(9, 0)), [0, 0])

    def test_names_are_looked_at_before_places(self):
        self.assert_refused(place(10, -1), -2)
        self.assert_refused(place(-1, FAR), -2)


class StretchTest(CallCase):
    def assert_stretch(self, edit, p, q, expected):
        """For grows from 0 to 3 the stretch is carried as expected."""
        asked = [stretch(1, p, q, grows) for grows in range(4)]
        self.assertEqual(ask(put_in(1, edit), *asked)[1:], expected)

    def test_the_example_of_the_document(self):
        self.assertEqual(last(put_in(0, EXAMPLE), stretch(0, 1, 3, 0)), [1, 2, 1])
        self.assertEqual(last(put_in(0, EXAMPLE), stretch(0, 1, 3, 2)), [1, 3, 1])
        self.assert_stretch(EXAMPLE, 1, 3, [[1, 2, 1], [1, 2, 1], [1, 3, 1], [1, 3, 1]])
        self.assert_stretch(EXAMPLE, 3, 5, [[3, 4, 1], [2, 4, 1], [3, 4, 1], [2, 4, 1]])
        self.assert_stretch(EXAMPLE, 0, 5, [[0, 4, 3]] * 4)

    def test_puts_on_both_sides(self):
        edit = puts(X, Y) + keeps(2) + puts(X)
        self.assert_stretch(edit, 0, 2, [[2, 4, 2], [0, 4, 2], [2, 5, 2], [0, 5, 2]])

    def test_puts_within(self):
        self.assert_stretch(keeps(1) + puts(X, Y) + keeps(1), 0, 2, [[0, 4, 2]] * 4)

    def test_painted_letters_are_still_there(self):
        self.assert_stretch(painted(1, 2, 2) + keeps(2), 1, 3, [[1, 3, 2]] * 4)

    def test_dropped_letters_are_not_counted(self):
        self.assert_stretch(keeps(1) + drops(A) + keeps(2) + drops(B), 0, 4, [[0, 3, 3]] * 4)
        self.assert_stretch(drops(A) + keeps(1) + drops(B), 0, 3, [[0, 1, 1]] * 4)

    def test_letters_beside_are_not_counted(self):
        self.assert_stretch(keeps(5), 1, 4, [[1, 4, 3]] * 4)
        self.assert_stretch(keeps(5), 4, 5, [[4, 5, 1]] * 4)

    def test_an_empty_stretch(self):
        self.assert_stretch([], 0, 0, [[0, 0, 0]] * 4)
        self.assert_stretch(keeps(2), 1, 1, [[1, 1, 0]] * 4)
        self.assert_stretch(keeps(2), 2, 2, [[2, 2, 0]] * 4)
        # Forward is 3 and backward 1: where it grows at neither side, both ends are the backward one.
        edit = keeps(1) + puts(X, Y) + keeps(1)
        self.assert_stretch(edit, 1, 1, [[1, 1, 0], [1, 1, 0], [3, 3, 0], [1, 3, 0]])
        self.assert_stretch(puts(X), 0, 0, [[0, 0, 0], [0, 0, 0], [1, 1, 0], [0, 1, 0]])

    def test_all_its_letters_dropped(self):
        edit = keeps(1) + puts(X, Y) + drops(A, B) + keeps(1)
        for p, q in ((1, 3), (1, 2), (2, 3), (2, 2)):
            self.assert_stretch(edit, p, q, [[1, 1, 0], [1, 1, 0], [3, 3, 0], [1, 3, 0]])
        self.assert_stretch(keeps(1) + drops(A, B) + keeps(1), 1, 3, [[1, 1, 0]] * 4)
        edit = puts(X) + drops(A, B)
        self.assert_stretch(edit, 0, 2, [[0, 0, 0], [0, 0, 0], [1, 1, 0], [0, 1, 0]])

    def test_grows(self):
        for grows in (-FAR, -1, 4, 5, FAR):
            self.assert_refused(stretch(1, 0, 1, grows), -2)
        for grows in (0, 1, 2, 3):
            self.assertEqual(last(put_in(0, keeps(2)), stretch(0, 0, 1, grows)), [0, 1, 1])

    def test_stretches_that_are_none(self):
        for p, q in ((-1, 0), (-FAR, 1), (1, 0), (3, 2), (0, 4), (4, 4), (2, FAR), (FAR, FAR), (-1, -1), (4, 3)):
            for grows in range(4):
                self.assert_refused(stretch(1, p, q, grows), -1)
        # The old length counts, not the new one or that of the text.
        self.assert_refused(stretch(3, 0, 4, 0), -1)
        self.assert_refused(stretch(0, 0, 3, 0), -1)
        self.assertEqual(last(put_in(0, drops(A, B, C)), stretch(0, 0, 3, 0)), [0, 0, 0])

    def test_the_longest(self):
        edit = told_letters(3, [X] * 1000) + keeps(1000) + told_letters(2, [A] * 1000)
        self.assert_stretch(edit, 0, 2000, [[1000, 2000, 1000], [0, 2000, 1000]] * 2)
        self.assert_stretch(edit, 1000, 2000, [[2000, 2000, 0]] * 4)

    def test_it_changes_nothing(self):
        calls = [text(word("ab")), put_in(1, drops(A) + keeps(1)), stretch(1, 0, 2, 3)]
        self.assertEqual(ask(*calls, get(1), show())[3:], [[6] + drops(A) + keeps(1), [2] + word("ab")])

    def test_names(self):
        for name in NOT_NAMES:
            self.assert_refused(stretch(name, 0, 0, 0), -2)
        self.assertEqual(last(stretch(9, 0, 0, 0)), [0, 0, 0])

    def test_order_of_refusals(self):
        self.assert_refused(stretch(10, 1, 0, 0), -2)
        self.assert_refused(stretch(-1, 0, FAR, 0), -2)
        self.assert_refused(stretch(1, 1, 0, 4), -2)
        self.assert_refused(stretch(1, -1, 0, -1), -2)


if __name__ == "__main__":
    unittest.main()
