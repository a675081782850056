"""The interface: one list of calls handed in, one list of answers given back."""

import unittest

from editvalues.edits import answers
from tests.helper import START, apply, compose, drops, flat, get, keeps, painted, put_in, puts, rebase, text, turn

MIXED = flat([
    *START,
    put_in(0, drops((97, 0)) + puts((88, 0)) + keeps(2)), get(0), apply(0), turn(0, 1), apply(1), get(1),
    compose(0, 1, 2), get(2), rebase(0, 1, 2, 3, 0), rebase(0, 4, 5, 6, 1), get(5), get(6),
    text([97]), apply(10), get(-1), compose(0, 0, 11), put_in(0, [0]), text([]), apply(7), apply(8),
])


class AnswersTest(unittest.TestCase):
    def test_each_call_as_it_stands_in_the_lists(self):
        calls = [
            0, 6, 97, 0, 98, 1, 10, 99,
            1, 3, 8, 2, 1, 97, 0, 3, 1, 88, 5,
            1, 4, 6, 0, 1, 1, 1, 2, 2,
            1, 4, 10, 2, 1, 97, 0, 0, 1, 1, 99, 2, 1,
            2, 3,
            3, 4,
            4, 3, 0, 5,
            5, 4, 6,
            6, 3, 3, 7, 8, 1,
            2, 6,
        ]
        self.assertEqual(answers(calls), [
            1, 3,
            2, 1, 1,
            2, 3, 3,
            2, 3, 2,
            9, 8, 3, 1, 88, 5, 2, 1, 97, 0,
            5, 2, 98, 1, 10, 2,
            1, -3,
            2, 2, 3,
            4, 1, 2, 1, 2,
            11, 10, 3, 1, 97, 0, 0, 1, 1, 2, 99, 1,
        ])

    def test_empty_rows(self):
        self.assertEqual(answers([0, 0]), [1, 0])
        self.assertEqual(answers([1, 0, 0]), [2, 0, 0])
        self.assertEqual(answers([2, 0]), [1, 0])
        self.assertEqual(answers([3, 0]), [1, 0])
        self.assertEqual(answers([0, 0, 0, 2, 97, 0, 0, 0, 3, 0]), [1, 0, 1, 1, 1, 0, 1, 0])

    def test_a_refusal_is_one_number_alone(self):
        self.assertEqual(answers([2, 10]), [1, -2])
        self.assertEqual(answers([6, 0, 0, 0, 0, 0]), [1, -2])

    def test_a_row_of_a_refused_call_is_passed_over(self):
        self.assertEqual(answers([1, 10, 4, 2, 0, 2, 0, 0, 1, 97, 2, 0]), [1, -2, 1, -1, 1, 0])

    def test_the_list_handed_in_is_not_changed(self):
        calls = list(MIXED)
        answers(calls)
        self.assertEqual(calls, MIXED)

    def test_nothing_is_kept_from_one_time_to_the_next(self):
        at_first = answers([2, 0, 3, 0])
        mixed = answers(MIXED)
        self.assertEqual(answers(MIXED), mixed)
        self.assertEqual(answers([2, 0, 3, 0]), at_first)
        self.assertEqual(at_first, [1, 0, 1, 0])

    def test_an_answer_that_is_changed_changes_no_later_one(self):
        mixed = answers(MIXED)
        kept = list(mixed)
        mixed.clear()
        self.assertEqual(answers(MIXED), kept)

    def test_the_most_calls(self):
        calls = put_in(0, keeps(1000) + painted(3, 4, 1000)) + flat([turn(0, 0), compose(0, 0, 1), get(0)] * 133)
        answered = answers(calls)
        self.assertEqual(answered[-7:], [6, 0, 1000, 1, 4, 3, 1000])
        self.assertEqual(len(answered), 3 + 133 * (3 + 2 + 8))


if __name__ == "__main__":
    unittest.main()
