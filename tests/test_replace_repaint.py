"""Points 12 and 13: replace and repaint."""

import unittest

from tests.helper import (
    CallCase, FAR, NOT_NAMES, apply, ask, drops, get, keeps, last, painted, put_in, puts, repaint, replace, same, show,
    text, told_letters, word,
)

# What no text of three letters has as a stretch.
NO_STRETCHES = (
    (-1, 0), (-1, -1), (-FAR, 1), (1, 0), (3, 2), (0, 4), (4, 4), (3, 4), (4, 3), (2, FAR), (FAR, FAR), (FAR, -FAR),
)
ABC = [97, 0, 98, 1, 99, 2]
A = (97, 0)
B = (98, 1)
C = (99, 2)
X = (88, 7)
Y = (10, 0)


class MadeCase(CallCase):
    def assert_made(self, old, call, edit, lengths, new):
        """The call makes this edit 5 of the text old, which stays as it was; applied, the edit makes the text new."""
        before = [text(old), put_in(5, keeps(9))]
        answered = ask(*before, call, show(), get(5), apply(5), show())
        self.assertEqual(answered[2:], [
            lengths, [len(old) // 2] + old, [len(edit)] + edit, [len(new) // 2] + new, [len(new) // 2] + new,
        ])

    def assert_others_stay(self, call, t):
        """The call makes another edit t, and leaves the text and the other edits as they are."""
        edits = [put_in(r, keeps(r + 10)) for r in range(10)]
        answered = ask(text(ABC), *edits, call, show(), *[get(r) for r in range(10)])[12:]
        self.assertEqual(answered[0], [3] + ABC)
        changed = [r for r in range(10) if answered[r + 1] != [2, 0, r + 10]]
        self.assertEqual(changed, [t])


class ReplaceTest(MadeCase):
    def assert_replaced(self, p, q, letters, edit, new):
        self.assert_made(ABC, replace(5, p, q, letters), edit, [3, len(new) // 2], new)

    def test_within_the_text(self):
        self.assert_replaced(1, 2, [88, 7, 10, 0], keeps(1) + puts(X, Y) + drops(B) + keeps(1),
                             [97, 0, 88, 7, 10, 0, 99, 2])

    def test_at_the_beginning(self):
        self.assert_replaced(0, 0, [88, 7], puts(X) + keeps(3), [88, 7] + ABC)
        self.assert_replaced(0, 2, [88, 7], puts(X) + drops(A, B) + keeps(1), [88, 7, 99, 2])

    def test_at_the_end(self):
        self.assert_replaced(3, 3, [88, 7], keeps(3) + puts(X), ABC + [88, 7])
        self.assert_replaced(1, 3, [88, 7], keeps(1) + puts(X) + drops(B, C), [97, 0, 88, 7])

    def test_the_whole_text(self):
        self.assert_replaced(0, 3, [88, 7], puts(X) + drops(A, B, C), [88, 7])
        self.assert_replaced(0, 3, [], drops(A, B, C), [])

    def test_no_letters(self):
        self.assert_replaced(1, 2, [], keeps(1) + drops(B) + keeps(1), [97, 0, 99, 2])
        self.assert_replaced(2, 2, [], keeps(3), ABC)

    def test_letters_by_themselves(self):
        self.assert_replaced(1, 2, [98, 1], keeps(1) + puts(B) + drops(B) + keeps(1), ABC)

    def test_the_empty_text(self):
        self.assert_made([], replace(5, 0, 0, []), [], [0, 0], [])
        self.assert_made([], replace(5, 0, 0, [88, 7, 10, 0]), puts(X, Y), [0, 2], [88, 7, 10, 0])
        self.assertEqual(ask(replace(0, 0, 1, []), replace(0, -1, 0, [])), [[-1], [-1]])

    def test_the_text_that_an_edit_has_made(self):
        calls = [text(ABC), put_in(0, drops(A, B) + keeps(1)), apply(0), replace(0, 0, 1, [88, 7]), get(0)]
        self.assertEqual(ask(*calls)[3:], [[1, 1], [8] + puts(X) + drops(C)])

    def test_every_edit_can_be_made(self):
        for t in range(10):
            self.assert_others_stay(replace(t, 1, 2, [88, 7]), t)

    def test_an_edit_made_is_the_same_as_one_that_is_set(self):
        calls = [text(ABC), replace(0, 1, 2, [88, 7]), put_in(1, keeps(1) + drops(B) + puts(X) + keeps(1)), same(0, 1)]
        self.assertEqual(last(*calls), [1])

    def test_a_later_text_leaves_the_edit_as_it_was(self):
        self.assert_got([text(ABC), replace(0, 0, 3, []), text([88, 7])], 0, drops(A, B, C))

    def test_names(self):
        for t in NOT_NAMES:
            self.assert_refused(replace(t, 0, 0, []), -2)

    def test_stretches_that_are_none(self):
        for p, q in NO_STRETCHES:
            self.assert_refused(replace(1, p, q, [88, 7]), -1)

    def test_the_text_counts_and_not_the_edit(self):
        self.assertEqual(last(text(ABC), replace(0, 2, 3, [])), [3, 2])
        self.assertEqual(last(text(ABC), put_in(0, keeps(9)), replace(0, 2, 4, [])), [-1])

    def test_letters_that_are_none(self):
        for sign in (-FAR, -1, 0, 9, 11, 31, 127, FAR):
            self.assert_refused(replace(1, 1, 2, [sign, 0]), -4)
            self.assert_refused(replace(1, 1, 2, [97, 0, sign, 0]), -4)
        for look in (-FAR, -1, 100, FAR):
            self.assert_refused(replace(1, 1, 2, [97, look]), -4)
            self.assert_refused(replace(1, 1, 2, [97, 0, 98, look]), -4)
        for odd in ([97], [97, 0, 98], [97, 0, 98, 0, 99]):
            self.assert_refused(replace(1, 1, 2, odd), -4)

    def test_greatest_new_length(self):
        for p, q in ((0, 0), (1, 2), (0, 3), (3, 3)):
            most = 2000 - 3 + q - p
            self.assertEqual(last(text(ABC), replace(1, p, q, word("x" * most))), [3, 2000])
            for n in (most + 1, 5000):
                self.assert_refused(replace(1, p, q, word("x" * n)), -5)

    def test_the_longest(self):
        edit = told_letters(3, [X] * 2000) + told_letters(2, [A] * 2000)
        self.assert_made([97, 0] * 2000, replace(5, 0, 2000, [88, 7] * 2000), edit, [2000, 2000], [88, 7] * 2000)
        full = [text(word("x" * 2000))]
        self.assertEqual(last(*full, replace(1, 2000, 2000, [])), [2000, 2000])
        self.assertEqual(last(*full, replace(1, 5, 6, [88, 7])), [2000, 2000])
        self.assert_refused(replace(1, 2000, 2000, [88, 7]), -5, full)
        self.assert_refused(replace(1, 0, 2000, [88, 7] * 2001), -5, full)

    def test_order_of_refusals(self):
        self.assert_refused(replace(10, 1, 0, []), -2)
        self.assert_refused(replace(10, 0, 0, [9, 0]), -2)
        self.assert_refused(replace(-1, 0, 0, [88, 7] * 2001), -2)
        self.assert_refused(replace(1, 2, 1, [9, 0]), -1)
        self.assert_refused(replace(1, 0, 4, [97]), -1)
        self.assert_refused(replace(1, -1, 0, [88, 7] * 2001), -1)
        self.assert_refused(replace(1, 0, 0, [88, 7] * 2001 + [97]), -4)
        self.assert_refused(replace(1, 0, 0, [88, 7] * 2001 + [97, 100]), -4)


class RepaintTest(MadeCase):
    def assert_repainted(self, p, q, g, edit, new):
        self.assert_made(ABC, repaint(5, p, q, g), edit, [3, 3], new)

    def test_letters_of_other_looks(self):
        self.assert_repainted(0, 3, 7, painted(0, 7, 1) + painted(1, 7, 1) + painted(2, 7, 1), [97, 7, 98, 7, 99, 7])
        self.assert_repainted(1, 2, 7, keeps(1) + painted(1, 7, 1) + keeps(1), [97, 0, 98, 7, 99, 2])
        self.assert_repainted(0, 1, 7, painted(0, 7, 1) + keeps(2), [97, 7, 98, 1, 99, 2])
        self.assert_repainted(2, 3, 7, keeps(2) + painted(2, 7, 1), [97, 0, 98, 1, 99, 7])

    def test_letters_that_have_the_look_already(self):
        self.assert_repainted(0, 3, 1, painted(0, 1, 1) + keeps(1) + painted(2, 1, 1), [97, 1, 98, 1, 99, 1])
        self.assert_repainted(1, 2, 1, keeps(3), ABC)
        self.assert_made(word("abc", 4), repaint(5, 0, 3, 4), keeps(3), [3, 3], word("abc", 4))

    def test_letters_of_one_look(self):
        self.assert_made(word("abcd", 4), repaint(5, 1, 3, 6), keeps(1) + painted(4, 6, 2) + keeps(1), [4, 4],
                         [97, 4, 98, 6, 99, 6, 100, 4])

    def test_an_empty_stretch(self):
        for p in (0, 1, 2, 3):
            self.assert_repainted(p, p, 7, keeps(3), ABC)

    def test_the_empty_text(self):
        self.assert_made([], repaint(5, 0, 0, 7), [], [0, 0], [])
        self.assertEqual(ask(repaint(0, 0, 1, 7), repaint(0, -1, 0, 7)), [[-1], [-1]])

    def test_an_edit_made_is_the_same_as_one_that_is_set(self):
        told = keeps(1) + painted(1, 2, 1) + keeps(2)
        self.assertEqual(last(text(ABC + [100, 4]), repaint(0, 1, 3, 2), put_in(1, told), same(0, 1)), [1])

    def test_looks(self):
        self.assert_repainted(1, 2, 0, keeps(1) + painted(1, 0, 1) + keeps(1), [97, 0, 98, 0, 99, 2])
        self.assert_repainted(1, 2, 99, keeps(1) + painted(1, 99, 1) + keeps(1), [97, 0, 98, 99, 99, 2])
        for g in (-FAR, -1, 100, FAR):
            self.assert_refused(repaint(1, 1, 2, g), -2)
            self.assert_refused(repaint(1, 1, 1, g), -2)

    def test_the_text_that_an_edit_has_made(self):
        calls = [text(ABC), put_in(0, drops(A, B) + painted(2, 5, 1)), apply(0), repaint(0, 0, 1, 2), get(0)]
        self.assertEqual(ask(*calls)[3:], [[1, 1], [4, 1, 5, 2, 1]])

    def test_every_edit_can_be_made(self):
        for t in range(10):
            self.assert_others_stay(repaint(t, 1, 2, 7), t)

    def test_the_longest(self):
        self.assert_made([97, 1] * 2000, repaint(5, 0, 2000, 2), painted(1, 2, 2000), [2000, 2000], [97, 2] * 2000)

    def test_names(self):
        for t in NOT_NAMES:
            self.assert_refused(repaint(t, 0, 0, 7), -2)

    def test_stretches_that_are_none(self):
        for p, q in NO_STRETCHES:
            self.assert_refused(repaint(1, p, q, 7), -1)

    def test_the_text_counts_and_not_the_edit(self):
        self.assertEqual(last(text(ABC), repaint(0, 2, 3, 7)), [3, 3])
        self.assertEqual(last(text(ABC), put_in(0, keeps(9)), repaint(0, 2, 4, 7)), [-1])

    def test_order_of_refusals(self):
        self.assert_refused(repaint(10, 1, 0, 7), -2)
        self.assert_refused(repaint(-1, 0, FAR, 7), -2)
        self.assert_refused(repaint(1, 1, 0, 100), -2)
        self.assert_refused(repaint(1, -1, 0, -1), -2)


if __name__ == "__main__":
    unittest.main()
