"""Points 2 and 3: set and get, and the form in which edits are told."""

import unittest

from tests.helper import (
    CallCase, FAR, NOT_NAMES, ask, compose, drops, get, keeps, last, painted, put_in, puts, told_letters,
)

A = (97, 0)
B = (98, 1)
C = (99, 2)
D = (10, 3)


def many(kind, n):
    return told_letters(kind, [A] * n)


class SetTest(CallCase):
    def assert_set(self, edit, old, new):
        self.assertEqual(last(put_in(3, edit)), [old, new])

    def assert_no_edit(self, edit):
        self.assert_refused(put_in(3, edit), -1)

    def test_lengths(self):
        self.assert_set([], 0, 0)
        self.assert_set(keeps(5), 5, 5)
        self.assert_set(painted(0, 99, 4), 4, 4)
        self.assert_set(drops(A, B, C), 3, 0)
        self.assert_set(puts(A, B), 0, 2)
        self.assert_set(keeps(2) + puts((88, 0)) + drops(C, D) + painted(3, 4, 6), 10, 9)

    def test_every_edit_can_be_set(self):
        for r in range(10):
            self.assertEqual(ask(put_in(r, keeps(r + 1)), get(r)), [[r + 1, r + 1], [2, 0, r + 1]])

    def test_other_edits_stay_as_they_were(self):
        calls = [put_in(r, keeps(r + 1)) for r in range(10)] + [put_in(4, puts(A))]
        for r in range(10):
            self.assert_got(calls, r, puts(A) if r == 4 else keeps(r + 1))

    def test_the_empty_edit_takes_the_place_of_another(self):
        self.assert_got([put_in(0, keeps(3)), put_in(0, [])], 0, [])

    def test_names(self):
        for r in NOT_NAMES:
            self.assert_refused(put_in(r, keeps(1)), -2)

    def test_n(self):
        for n in (1, 2, 1999, 2000):
            self.assert_set(keeps(n), n, n)
            self.assert_set(painted(1, 2, n), n, n)
            self.assert_set(many(2, n), n, 0)
            self.assert_set(many(3, n), 0, n)
        for n in (-FAR, -1, 0, 2001, FAR):
            self.assert_no_edit([0, n])
            self.assert_no_edit([1, 1, 2, n])
            self.assert_no_edit([2, n, 97, 0])
            self.assert_no_edit([3, n, 97, 0])
        for kind in (2, 3):
            self.assert_no_edit([kind, 0])
            self.assert_no_edit(many(kind, 2001))

    def test_looks_of_paints(self):
        self.assert_set(painted(0, 99, 1), 1, 1)
        self.assert_set(painted(99, 0, 1), 1, 1)
        for wrong in (-FAR, -1, 100, FAR):
            self.assert_no_edit(painted(wrong, 1, 1))
            self.assert_no_edit(painted(1, wrong, 1))
        for f in (0, 1, 99, -1, 100):
            self.assert_no_edit(painted(f, f, 1))

    def test_letters_of_drops_and_puts(self):
        for kind in (2, 3):
            for sign in (10, 32, 126):
                self.assert_got([put_in(3, [kind, 1, sign, 99])], 3, [kind, 1, sign, 99])
            for sign in (-1, 0, 9, 11, 31, 127):
                self.assert_no_edit([kind, 1, sign, 0])
                self.assert_no_edit([kind, 2, 97, 0, sign, 0])
            for look in (-1, 100):
                self.assert_no_edit([kind, 1, 97, look])
                self.assert_no_edit([kind, 2, 97, 0, 98, look])

    def test_kinds(self):
        for kind in (-FAR, -1, 4, 5, FAR):
            self.assert_no_edit([kind, 1])
            self.assert_no_edit([kind, 1, 97, 0])
            self.assert_no_edit(keeps(2) + [kind])

    def test_lists_that_break_off(self):
        whole = [keeps(1), painted(1, 2, 1), drops(A, B), puts(A, B)]
        for part in whole:
            for end in range(1, len(part)):
                self.assert_no_edit(part[:end])
                self.assert_no_edit(keeps(1) + part[:end])

    def test_lists_with_more_behind_the_last_part(self):
        self.assert_no_edit(keeps(1) + [7])
        self.assert_no_edit(drops(A) + [98, 1])
        self.assert_no_edit(puts(A) + [98, 1])

    def test_greatest_lengths(self):
        self.assert_set(keeps(1000) + painted(1, 2, 999) + drops(A), 2000, 1999)
        self.assert_set(keeps(1000) + painted(1, 2, 999) + puts(A), 1999, 2000)
        self.assert_set(many(2, 2000) + many(3, 2000), 2000, 2000)
        for one_more in (keeps(1), painted(1, 2, 1)):
            self.assert_refused(put_in(3, keeps(2000) + one_more), -5)
            self.assert_refused(put_in(3, many(2, 2000) + one_more), -5)
            self.assert_refused(put_in(3, many(3, 2000) + one_more), -5)
        self.assert_refused(put_in(3, keeps(2000) + drops(A)), -5)
        self.assert_refused(put_in(3, keeps(2000) + puts(A)), -5)
        self.assert_refused(put_in(3, many(2, 2000) + drops(A)), -5)
        self.assert_refused(put_in(3, many(3, 2000) + puts(A)), -5)

    def test_a_list_that_tells_millions_of_steps(self):
        self.assert_refused(put_in(3, keeps(2000) * 5000), -5)
        self.assert_refused(put_in(3, keeps(2000) * 4999 + [0]), -1)

    def test_order_of_refusals(self):
        self.assert_refused(put_in(10, [0]), -2)
        self.assert_refused(put_in(-1, keeps(2000) * 2), -2)
        self.assert_refused(put_in(0, keeps(2000) * 2 + [0]), -1)
        self.assert_refused(put_in(0, keeps(2000) * 2 + [2, 1, 9, 0]), -1)


class GetTest(CallCase):
    def assert_told(self, edit, told):
        self.assert_got([put_in(0, edit)], 0, told)

    def test_a_new_object_has_ten_empty_edits(self):
        self.assertEqual(ask(*[get(r) for r in range(10)]), [[0]] * 10)

    def test_names(self):
        for r in NOT_NAMES:
            self.assert_refused(get(r), -2)

    def test_an_edit_in_its_form_is_told_as_it_was_set(self):
        edit = keeps(2) + puts((88, 0)) + drops(C, D) + keeps(1) + painted(1, 2, 3) + puts(A, B)
        self.assert_told(edit, edit)

    def test_puts_come_before_drops(self):
        self.assert_told(drops(A) + puts(B), puts(B) + drops(A))
        self.assert_told(keeps(1) + drops(A) + puts(B) + keeps(1), keeps(1) + puts(B) + drops(A) + keeps(1))
        self.assert_told(painted(1, 2, 1) + drops(A) + puts(B), painted(1, 2, 1) + puts(B) + drops(A))
        self.assert_told(drops(A) + puts(B) + painted(1, 2, 1), puts(B) + drops(A) + painted(1, 2, 1))

    def test_puts_and_drops_keep_their_order_among_themselves(self):
        self.assert_told(
            drops(A) + puts(B) + drops(C) + puts(D) + drops(B, A) + puts(C, A),
            puts(B, D, C, A) + drops(A, C, B, A),
        )

    def test_kept_letters_part_the_places(self):
        for kept in (keeps(1), painted(1, 2, 1)):
            self.assert_told(
                drops(A) + puts(B) + kept + drops(C) + puts(D),
                puts(B) + drops(A) + kept + puts(D) + drops(C),
            )
            self.assert_told(drops(A) + kept + puts(B), drops(A) + kept + puts(B))

    def test_neighbouring_parts_of_one_kind_make_one(self):
        self.assert_told(keeps(1) + keeps(2) + keeps(3), keeps(6))
        self.assert_told(painted(1, 2, 1) + painted(1, 2, 4), painted(1, 2, 5))
        self.assert_told(drops(A) + drops(B, C), drops(A, B, C))
        self.assert_told(puts(A, B) + puts(C), puts(A, B, C))

    def test_neighbouring_parts_of_unlike_kinds_do_not(self):
        edit = painted(1, 2, 1) + painted(1, 3, 1) + painted(2, 3, 1) + painted(2, 1, 1) + keeps(1) + puts(A) + drops(A)
        self.assert_told(edit, edit)
        self.assert_told(keeps(1) + painted(1, 2, 1) + keeps(1), keeps(1) + painted(1, 2, 1) + keeps(1))

    def test_getting_changes_nothing(self):
        edit = drops(A) + puts(B) + keeps(2)
        self.assertEqual(ask(put_in(0, edit), get(0), get(0))[1:], [[10] + puts(B) + drops(A) + keeps(2)] * 2)

    def test_more_numbers_than_are_ever_handed_in(self):
        paints = put_in(1, (painted(1, 2, 1) + keeps(1)) * 900)
        swaps = put_in(2, (keeps(1) + puts(B) + drops(A)) * 900)
        self.assert_got([paints, swaps, compose(1, 2, 3)], 3, (painted(1, 2, 1) + puts(B) + drops(A)) * 900)


if __name__ == "__main__":
    unittest.main()
