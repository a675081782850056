"""The object that the calls are made on: a text and ten edits.

Each call answers a list of numbers. A refusal is one number below 0: -1 a list that tells nothing of its kind,
-2 a number outside its range, -3 edits or a text that do not go together, -5 a length above the greatest.
Whatever may be refused is made first and kept afterwards, so that a refused call leaves everything as it was.
"""

from editvalues.applied import applied
from editvalues.composed import composed
from editvalues.letters import letters_told, numbers_of_letters
from editvalues.rebased import rebased
from editvalues.steps import MOST, in_form, new_length, old_length
from editvalues.told import new_length_told, numbers_of_steps, old_length_told, parts_told, steps_of_parts
from editvalues.turned import turned

EDITS = 10


def name_edits(names):
    """Whether each of the numbers names an edit held."""
    return all([0 <= name < EDITS for name in names])


class Held:
    def __init__(self):
        self.text = []
        self.edits = [[] for name in range(EDITS)]

    def hold(self, t, steps):
        """Keeps the edit as edit t, and answers its lengths."""
        self.edits[t] = steps
        return [old_length(steps), new_length(steps)]

    def call_text(self, row):
        letters = letters_told(row)
        if letters is None:
            return [-1]
        if len(letters) > MOST:
            return [-5]
        self.text = letters
        return [len(letters)]

    def call_set(self, r, row):
        if not name_edits([r]):
            return [-2]
        parts = parts_told(row)
        if parts is None:
            return [-1]
        if old_length_told(parts) > MOST or new_length_told(parts) > MOST:
            return [-5]
        return self.hold(r, in_form(steps_of_parts(parts)))

    def call_get(self, r):
        if not name_edits([r]):
            return [-2]
        numbers = numbers_of_steps(self.edits[r])
        return [len(numbers)] + numbers

    def call_apply(self, r):
        if not name_edits([r]):
            return [-2]
        made = applied(self.edits[r], self.text)
        if made is None:
            return [-3]
        self.text = made
        return [len(made)] + numbers_of_letters(made)

    def call_compose(self, r, s, t):
        if not name_edits([r, s, t]):
            return [-2]
        steps = composed(self.edits[r], self.edits[s])
        if steps is None:
            return [-3]
        return self.hold(t, steps)

    def call_turn(self, r, t):
        if not name_edits([r, t]):
            return [-2]
        return self.hold(t, turned(self.edits[r]))

    def call_rebase(self, r, s, t, u, first):
        if not name_edits([r, s, t, u]) or first < 0 or first > 1 or t == u:
            return [-2]
        both = rebased(self.edits[r], self.edits[s], first == 0)
        if both is None:
            return [-3]
        if new_length(both[0]) > MOST or new_length(both[1]) > MOST:
            return [-5]
        return self.hold(t, both[0]) + self.hold(u, both[1])
