"""Point 1: text."""

import unittest

from tests.helper import CallCase, FAR, apply, ask, keeps, last, put_in, text, word


def read_back(letters):
    """What a text of these letters answers, and the letters that are then held."""
    n = len(letters) // 2
    answered = ask(text(letters), put_in(0, keeps(n)), apply(0))
    return answered[0], answered[2]


class TextTest(CallCase):
    def assert_taken(self, letters):
        n = len(letters) // 2
        self.assertEqual(read_back(letters), ([n], [n] + letters))

    def test_a_new_object_has_an_empty_text(self):
        self.assertEqual(ask(apply(0)), [[0]])

    def test_the_letters_are_held_in_order(self):
        self.assert_taken([97, 0, 98, 1, 99, 2])

    def test_a_text_takes_the_place_of_the_one_before(self):
        self.assertEqual(last(text(word("abc")), text(word("de")), put_in(0, keeps(2)), apply(0)), [2] + word("de"))
        self.assertEqual(last(text(word("abc")), text([]), apply(0)), [0])

    def test_the_empty_text(self):
        self.assertEqual(ask(text([])), [[0]])

    def test_signs(self):
        for sign in (10, 32, 33, 125, 126):
            self.assert_taken([sign, 5])
        for sign in (-FAR, -10, -1, 0, 9, 11, 31, 127, 128, FAR):
            self.assert_refused(text([sign, 5]), -1)
            self.assert_refused(text([97, 0, sign, 5]), -1)

    def test_looks(self):
        for look in (0, 1, 98, 99):
            self.assert_taken([97, look])
        for look in (-FAR, -1, 100, FAR):
            self.assert_refused(text([97, look]), -1)
            self.assert_refused(text([97, 0, 98, look]), -1)

    def test_an_odd_number_of_numbers(self):
        self.assert_refused(text([97]), -1)
        self.assert_refused(text([97, 0, 98]), -1)
        self.assert_refused(text([97, 0, 98, 0, 99]), -1)

    def test_sign_and_look_are_not_interchangeable(self):
        self.assert_refused(text([0, 97]), -1)

    def test_how_many_letters(self):
        for n in (1999, 2000):
            self.assert_taken(word("x" * n))
        for n in (2001, 5000):
            self.assert_refused(text(word("x" * n)), -5)

    def test_a_wrong_list_is_refused_before_a_long_one(self):
        long = word("x" * 2001)
        self.assert_refused(text(long + [97]), -1)
        self.assert_refused(text(long + [9, 0]), -1)
        self.assert_refused(text(long + [97, 100]), -1)
        self.assert_refused(text(word("x" * 2000) + [97]), -1)

    def test_the_edits_stay_as_they_were(self):
        self.assert_got([put_in(4, keeps(2)), text(word("abc"))], 4, keeps(2))


if __name__ == "__main__":
    unittest.main()
