"""The object that the calls are made on: a text and ten edits.

Each call answers a list of numbers. A refusal is one number below 0: -1 a list that tells nothing of its kind, or a
place or a stretch that the text has not, -2 a number outside its range, -3 edits or a text that do not go together,
-4 letters to replace a stretch by that are none, -5 a length above the greatest.
Whatever may be refused is made first and kept afterwards, so that a refused call leaves everything as it was.
"""

from editvalues.applied import applied
from editvalues.composed import composed
from editvalues.letters import is_look, letters_told, numbers_of_letters
from editvalues.made import repainting, replacing
from editvalues.places import backward, carried_stretch, count_kept, forward, kept_stretches
from editvalues.rebased import rebased
from editvalues.steps import MOST, in_form, new_length, old_length
from editvalues.told import new_length_told, numbers_of_steps, old_length_told, parts_told, steps_of_parts
from editvalues.turned import turned

EDITS = 10


def name_edits(names):
    """Whether each of the numbers names an edit held."""
    return all([0 <= name < EDITS for name in names])


def is_stretch(p, q, length):
    """Whether a text of that length has a stretch from p to q."""
    return 0 <= p <= q <= length


class Held:
    def __init__(self):
        self.text = []
        self.edits = [[] for name in range(EDITS)]

    def hold(self, t, steps):
        """Keeps the edit as edit t, and answers its lengths."""
        self.edits[t] = steps
        return [old_length(steps), new_length(steps)]

    def call_text(self, row):
        letters = letters_told(row)
        if letters is None:
            return [-1]
        if len(letters) > MOST:
            return [-5]
        self.text = letters
        return [len(letters)]

    def call_set(self, r, row):
        if not name_edits([r]):
            return [-2]
        parts = parts_told(row)
        if parts is None:
            return [-1]
        if old_length_told(parts) > MOST or new_length_told(parts) > MOST:
            return [-5]
        return self.hold(r, in_form(steps_of_parts(parts)))

    def call_get(self, r):
        if not name_edits([r]):
            return [-2]
        numbers = numbers_of_steps(self.edits[r])
        return [len(numbers)] + numbers

    def call_apply(self, r):
        if not name_edits([r]):
            return [-2]
        made = applied(self.edits[r], self.text)
        if made is None:
            return [-3]
        self.text = made
        return self.call_show()

    def call_compose(self, r, s, t):
        if not name_edits([r, s, t]):
            return [-2]
        steps = composed(self.edits[r], self.edits[s])
        if steps is None:
            return [-3]
        return self.hold(t, steps)

    def call_turn(self, r, t):
        if not name_edits([r, t]):
            return [-2]
        return self.hold(t, turned(self.edits[r]))

    def call_rebase(self, r, s, t, u, first):
        if not name_edits([r, s, t, u]) or first < 0 or first > 1 or t == u:
            return [-2]
        both = rebased(self.edits[r], self.edits[s], first == 0)
        if both is None:
            return [-3]
        if new_length(both[0]) > MOST or new_length(both[1]) > MOST:
            return [-5]
        return self.hold(t, both[0]) + self.hold(u, both[1])

    def call_same(self, r, s):
        if not name_edits([r, s]):
            return [-2]
        return [1 if self.edits[r] == self.edits[s] else 0]

    def call_place(self, r, p):
        if not name_edits([r]):
            return [-2]
        steps = self.edits[r]
        if p < 0 or p > old_length(steps):
            return [-1]
        return [backward(steps, p), forward(steps, p)]

    def call_stretch(self, r, p, q, grows):
        if not name_edits([r]) or grows < 0 or grows > 3:
            return [-2]
        steps = self.edits[r]
        if not is_stretch(p, q, old_length(steps)):
            return [-1]
        carried = carried_stretch(steps, p, q, grows in (1, 3), grows in (2, 3))
        return [carried[0], carried[1], count_kept(steps, p, q)]

    def call_kept(self, r):
        if not name_edits([r]):
            return [-2]
        stretches = kept_stretches(self.edits[r])
        answer = [len(stretches)]
        for stretch in stretches:
            answer.extend(stretch)
        return answer

    def call_replace(self, t, p, q, row):
        if not name_edits([t]):
            return [-2]
        if not is_stretch(p, q, len(self.text)):
            return [-1]
        letters = letters_told(row)
        if letters is None:
            return [-4]
        steps = replacing(self.text, p, q, letters)
        if new_length(steps) > MOST:
            return [-5]
        return self.hold(t, steps)

    def call_repaint(self, t, p, q, g):
        if not name_edits([t]) or not is_look(g):
            return [-2]
        if not is_stretch(p, q, len(self.text)):
            return [-1]
        return self.hold(t, repainting(self.text, p, q, g))

    def call_show(self):
        return [len(self.text)] + numbers_of_letters(self.text)
