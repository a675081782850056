"""Point 14: show."""

import unittest

from tests.helper import (
    CallCase, apply, ask, drops, get, keeps, last, painted, put_in, puts, repaint, replace, show, text, word,
)

X = (88, 4)


class ShowTest(CallCase):
    def test_a_new_object(self):
        self.assertEqual(ask(show()), [[0]])

    def test_the_empty_text(self):
        self.assertEqual(last(text([]), show()), [0])
        self.assertEqual(last(text([97, 0]), text([]), show()), [0])

    def test_after_text(self):
        self.assertEqual(last(text([97, 0, 10, 99, 126, 5]), show()), [3, 97, 0, 10, 99, 126, 5])
        self.assertEqual(last(text(word("abc")), text(word("de")), show()), [2] + word("de"))

    def test_after_apply(self):
        calls = [text([97, 0, 98, 1]), put_in(0, puts(X) + drops((97, 0)) + painted(1, 3, 1)), apply(0), show()]
        self.assertEqual(ask(*calls)[2:], [[2, 88, 4, 98, 3]] * 2)

    def test_after_a_refused_call(self):
        calls = [text([97, 0]), put_in(0, keeps(2))]
        for refused in (text([97]), text(word("x" * 2001)), apply(0), apply(10), replace(0, 1, 0, []),
                        repaint(0, 0, 2, 5)):
            answered = ask(*calls, refused, show())
            self.assertLess(answered[2][0], 0)
            self.assertEqual(answered[3], [1, 97, 0])

    def test_after_edits_are_made(self):
        calls = [text([97, 0]), replace(0, 0, 1, [88, 4]), show(), repaint(1, 0, 1, 5), show()]
        self.assertEqual(ask(*calls)[2::2], [[1, 97, 0]] * 2)

    def test_the_longest(self):
        self.assertEqual(last(text([97, 3] * 2000), show()), [2000] + [97, 3] * 2000)

    def test_it_changes_nothing(self):
        calls = [text([97, 0]), put_in(0, drops((97, 0))), show(), show(), get(0), apply(0), show()]
        self.assertEqual(ask(*calls)[2:], [[1, 97, 0]] * 2 + [[4] + drops((97, 0))] + [[0]] * 2)


if __name__ == "__main__":
    unittest.main()
