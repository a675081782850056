"""Calls written as lists, and the answers to them, one list each."""

import unittest

from editvalues.edits import answers

FAR = 10 ** 18
NOT_NAMES = (-FAR, -1, 10, FAR)


def text(letters):
    return [0, len(letters)] + letters


def put_in(r, edit):
    return [1, r, len(edit)] + edit


def get(r):
    return [2, r]


def apply(r):
    return [3, r]


def compose(r, s, t):
    return [4, r, s, t]


def turn(r, t):
    return [5, r, t]


def rebase(r, s, t, u, first):
    return [6, r, s, t, u, first]


def same(r, s):
    return [7, r, s]


def place(r, p):
    return [8, r, p]


def stretch(r, p, q, grows):
    return [9, r, p, q, grows]


def kept(r):
    return [10, r]


def replace(t, p, q, letters):
    return [11, t, p, q, len(letters)] + letters


def repaint(t, p, q, g):
    return [12, t, p, q, g]


def show():
    return [13]


def keeps(n):
    return [0, n] if n else []


def painted(f, g, n):
    return [1, f, g, n]


def drops(*letters):
    return told_letters(2, letters)


def puts(*letters):
    return told_letters(3, letters)


def told_letters(kind, letters):
    return [kind, len(letters)] + flat(letters)


def flat(lists):
    return [number for each in lists for number in each]


def word(signs, look=0):
    """The numbers that tell a text with these signs, all of one look."""
    return flat([(ord(sign), look) for sign in signs])


def split(answered):
    each = []
    at = 0
    while at < len(answered):
        end = at + 1 + answered[at]
        each.append(answered[at + 1:end])
        at = end
    return each


def ask(*calls):
    return split(answers(flat(calls)))


def last(*calls):
    return ask(*calls)[-1]


# A text of three letters and ten unlike edits.
START = [
    text([97, 0, 98, 1, 10, 2]),
    put_in(0, keeps(2)),
    put_in(1, painted(0, 7, 1) + keeps(2)),
    put_in(2, drops((97, 0), (98, 1)) + keeps(1)),
    put_in(3, keeps(3) + puts((88, 4))),
    put_in(4, puts((89, 5)) + keeps(3)),
    put_in(5, keeps(2) + painted(2, 8, 1)),
    put_in(6, keeps(2) + drops((10, 3))),
    put_in(7, keeps(2) + painted(3, 8, 1)),
    put_in(8, keeps(2) + drops((65, 2))),
    put_in(9, keeps(3)),
]


class CallCase(unittest.TestCase):
    maxDiff = None

    def assert_got(self, calls, r, edit):
        """Edit r, after the calls, is told by just these numbers."""
        self.assertEqual(last(*calls, get(r)), [len(edit)] + edit)

    def assert_refused(self, call, refusal, before=()):
        """Behind START and what comes before it, the call answers the refusal alone,
        and leaves the text and all ten edits as they were."""
        earlier = [*START, *before]
        shown = [get(r) for r in range(10)] + [show()]
        untouched = ask(*earlier, *shown)[len(earlier):]
        touched = ask(*earlier, call, *shown)[len(earlier):]
        self.assertEqual(touched[0], [refusal])
        self.assertEqual(touched[1:], untouched)
