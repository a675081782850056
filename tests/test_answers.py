"""The interface: one list of calls handed in, one list of answers given back."""

import unittest

from editvalues.edits import answers
from tests.helper import (
    FAR, START, apply, compose, drops, flat, get, keeps, kept, place, put_in, puts, rebase, repaint, replace, same,
    show, split, stretch, text, told_letters, turn,
)

MIXED = flat([
    *START,
    put_in(0, drops((97, 0)) + puts((88, 0)) + keeps(2)), get(0), apply(0), turn(0, 1), apply(1), get(1),
    compose(0, 1, 2), get(2), rebase(0, 1, 2, 3, 0), rebase(0, 4, 5, 6, 1), get(5), get(6),
    text([97]), apply(10), get(-1), compose(0, 0, 11), put_in(0, [0]),
    same(0, 1), place(0, 1), stretch(0, 0, 3, 3), kept(0), show(), replace(7, 1, 2, [88, 4]), apply(7), kept(7),
    repaint(8, 0, 2, 6), apply(8), same(7, 8), turn(8, 8), get(8), show(), compose(7, 9, 6), rebase(7, 7, 0, 1, 1),
    same(0, 10), place(0, -1), stretch(0, 1, 0, 0), stretch(0, 0, 0, 4), kept(-1), replace(0, 0, 9, []),
    replace(0, 0, 0, [9, 0]), replace(0, 0, 0, [88, 4] * 2000), repaint(0, 0, 0, 100), repaint(0, 2, 1, 0), show(),
    text([]), apply(7), apply(8), show(),
])


def kept_from_change(name):
    def refuse(*args, **kwargs):
        raise AssertionError(f"the list handed in is changed by {name}")
    return refuse


class Fixed(list):
    """A list that can't be changed, not for a while either."""


for name in ("__setitem__", "__delitem__", "__iadd__", "__imul__", "append", "clear", "extend", "insert", "pop",
             "remove", "reverse", "sort"):
    setattr(Fixed, name, kept_from_change(name))


def most_calls():
    """400 calls of all kinds, on a text and on edits of 2000 letters, each with its answer."""
    a_letters = [97, 0] * 2000
    x_letters = [88, 7] * 2000
    swap = told_letters(3, [(88, 7)] * 2000) + told_letters(2, [(97, 0)] * 2000)
    pairs = [(text(a_letters), [2000]), (put_in(0, swap), [2000, 2000])]
    round_trip = [
        (repaint(1, 0, 2000, 5), [2000, 2000]), (get(1), [4, 1, 0, 5, 2000]), (same(0, 1), [0]),
        (place(0, 1000), [0, 2000]), (stretch(0, 0, 2000, 3), [0, 2000, 0]), (kept(0), [0]), (kept(1), [1, 0, 0, 2000]),
        (apply(1), [2000] + [97, 5] * 2000), (turn(1, 2), [2000, 2000]), (show(), [2000] + [97, 5] * 2000),
        (apply(1), [-3]), (apply(2), [2000] + a_letters), (compose(1, 2, 3), [2000, 2000]), (get(3), [2, 0, 2000]),
        (rebase(0, 1, 4, 5, 0), [2000, 2000, 2000, 2000]), (same(5, 3), [1]), (kept(5), [1, 0, 0, 2000]),
        (get(4), [8004] + told_letters(3, [(88, 7)] * 2000) + told_letters(2, [(97, 5)] * 2000)),
        (apply(0), [2000] + x_letters), (turn(0, 6), [2000, 2000]), (apply(6), [2000] + a_letters),
        (replace(7, 1999, 2000, [88, 7]), [2000, 2000]), (kept(7), [1, 0, 0, 1999]), (replace(7, 0, 0, [88, 7]), [-5]),
        (stretch(7, 1999, 2000, 0), [1999, 1999, 0]), (stretch(7, 1999, 2000, 2), [2000, 2000, 0]),
        (place(7, 2001), [-1]), (show(), [2000] + a_letters),
    ]
    return (pairs + round_trip * 15)[:400]


class AnswersTest(unittest.TestCase):
    def test_each_call_as_it_stands_in_the_lists(self):
        calls = [
            0, 6, 97, 0, 98, 1, 10, 99,
            1, 3, 8, 2, 1, 97, 0, 3, 1, 88, 5,
            1, 4, 6, 0, 1, 1, 1, 2, 2,
            1, 4, 10, 2, 1, 97, 0, 0, 1, 1, 99, 2, 1,
            2, 3,
            3, 4,
            4, 3, 0, 5,
            5, 4, 6,
            6, 3, 3, 7, 8, 1,
            2, 6,
        ]
        self.assertEqual(answers(calls), [
            1, 3,
            2, 1, 1,
            2, 3, 3,
            2, 3, 2,
            9, 8, 3, 1, 88, 5, 2, 1, 97, 0,
            5, 2, 98, 1, 10, 2,
            1, -3,
            2, 2, 3,
            4, 1, 2, 1, 2,
            11, 10, 3, 1, 97, 0, 0, 1, 1, 2, 99, 1,
        ])

    def test_each_later_call_as_it_stands_in_the_lists(self):
        calls = [
            0, 6, 97, 0, 98, 1, 10, 99,
            11, 3, 1, 2, 4, 88, 5, 89, 6,
            12, 4, 0, 3, 1,
            7, 3, 4,
            7, 3, 3,
            8, 3, 1,
            9, 3, 1, 2, 2,
            10, 3,
            13,
            11, 3, 0, 0, 0,
            10, 3,
            11, 10, 0, 0, 2, 13, 13,
            13,
        ]
        self.assertEqual(answers(calls), [
            1, 3,
            2, 3, 4,
            2, 3, 3,
            1, 0,
            1, 1,
            2, 1, 3,
            3, 3, 3, 0,
            7, 2, 0, 0, 1, 2, 3, 1,
            7, 3, 97, 0, 98, 1, 10, 99,
            2, 3, 3,
            4, 1, 0, 0, 3,
            1, -2,
            7, 3, 97, 0, 98, 1, 10, 99,
        ])

    def test_the_later_calls_on_a_new_object(self):
        self.assertEqual(answers([7, 0, 9]), [1, 1])
        self.assertEqual(answers([8, 0, 0]), [2, 0, 0])
        self.assertEqual(answers([9, 0, 0, 0, 0]), [3, 0, 0, 0])
        self.assertEqual(answers([10, 0]), [1, 0])
        self.assertEqual(answers([11, 0, 0, 0, 0]), [2, 0, 0])
        self.assertEqual(answers([12, 0, 0, 0, 0]), [2, 0, 0])
        self.assertEqual(answers([13]), [1, 0])

    def test_the_answers_are_whole_numbers(self):
        answered = answers(MIXED)
        self.assertIs(type(answered), list)
        self.assertEqual({type(number) for number in answered}, {int})

    def test_empty_rows(self):
        self.assertEqual(answers([0, 0]), [1, 0])
        self.assertEqual(answers([1, 0, 0]), [2, 0, 0])
        self.assertEqual(answers([2, 0]), [1, 0])
        self.assertEqual(answers([3, 0]), [1, 0])
        self.assertEqual(answers([0, 0, 0, 2, 97, 0, 0, 0, 3, 0]), [1, 0, 1, 1, 1, 0, 1, 0])

    def test_a_refusal_is_one_number_alone(self):
        self.assertEqual(answers([2, 10]), [1, -2])
        self.assertEqual(answers([6, 0, 0, 0, 0, 0]), [1, -2])
        self.assertEqual(answers([7, 10, 0]), [1, -2])
        self.assertEqual(answers([8, 0, 1]), [1, -1])
        self.assertEqual(answers([9, 0, 0, FAR, 0]), [1, -1])
        self.assertEqual(answers([10, -FAR]), [1, -2])
        self.assertEqual(answers([11, 0, 0, 0, 1, 97]), [1, -4])
        self.assertEqual(answers([12, 0, 0, 0, 100]), [1, -2])

    def test_a_row_of_a_refused_call_is_passed_over(self):
        self.assertEqual(answers([1, 10, 4, 2, 0, 2, 0, 0, 1, 97, 2, 0]), [1, -2, 1, -1, 1, 0])

    def test_the_list_handed_in_is_not_changed(self):
        calls = list(MIXED)
        answered = answers(calls)
        self.assertEqual(calls, MIXED)
        self.assertEqual(answers(Fixed(MIXED)), answered)

    def test_nothing_is_kept_from_one_time_to_the_next(self):
        at_first = answers([2, 0, 3, 0])
        mixed = answers(MIXED)
        self.assertEqual(answers(MIXED), mixed)
        self.assertEqual(answers([2, 0, 3, 0]), at_first)
        self.assertEqual(at_first, [1, 0, 1, 0])

    def test_an_answer_that_is_changed_changes_no_later_one(self):
        mixed = answers(MIXED)
        kept = list(mixed)
        mixed.clear()
        self.assertEqual(answers(MIXED), kept)

    def test_the_most_calls(self):
        pairs = most_calls()
        calls = flat([call for call, answer in pairs])
        self.assertEqual(len(pairs), 400)
        self.assertLessEqual(len(calls), 16000)
        before = list(calls)
        answered = answers(calls)
        self.assertEqual(calls, before)
        for got, (call, answer) in zip(split(answered), pairs, strict=True):
            self.assertEqual(got, answer, call[:5])
        self.assertEqual(answers(calls), answered)


if __name__ == "__main__":
    unittest.main()
