"""The walk over the calls, handed in as one list of numbers and answered as one."""

from editvalues.held import Held

# For each call, by its number: how many whole numbers it has, and whether a row stands behind them.
SHAPES = (
    (0, True),
    (1, True),
    (1, False),
    (1, False),
    (3, False),
    (2, False),
    (5, False),
    (2, False),
    (2, False),
    (4, False),
    (1, False),
    (3, True),
    (4, False),
    (0, False),
)


def answers(calls):
    held = Held()
    answered = []
    at = 0
    while at < len(calls):
        row_at = at + 1 + SHAPES[calls[at]][0]
        end = call_end(calls, at, row_at)
        answer = answer_of(held, calls[at], calls[at + 1:row_at], calls[row_at + 1:end])
        answered.append(len(answer))
        answered.extend(answer)
        at = end
    return answered


def call_end(calls, at, row_at):
    """The index behind the call that begins at index at and whose whole numbers end before row_at."""
    if SHAPES[calls[at]][1]:
        return row_at + 1 + calls[row_at]
    return row_at


def answer_of(held, call, numbers, row):
    """What the call answers; the row is empty where the call has none."""
    if call == 0:
        return held.call_text(row)
    if call == 1:
        return held.call_set(numbers[0], row)
    if call == 2:
        return held.call_get(numbers[0])
    if call == 3:
        return held.call_apply(numbers[0])
    if call == 4:
        return held.call_compose(numbers[0], numbers[1], numbers[2])
    if call == 5:
        return held.call_turn(numbers[0], numbers[1])
    if call == 6:
        return held.call_rebase(numbers[0], numbers[1], numbers[2], numbers[3], numbers[4])
    if call == 7:
        return held.call_same(numbers[0], numbers[1])
    if call == 8:
        return held.call_place(numbers[0], numbers[1])
    if call == 9:
        return held.call_stretch(numbers[0], numbers[1], numbers[2], numbers[3])
    if call == 10:
        return held.call_kept(numbers[0])
    if call == 11:
        return held.call_replace(numbers[0], numbers[1], numbers[2], row)
    if call == 12:
        return held.call_repaint(numbers[0], numbers[1], numbers[2], numbers[3])
    return held.call_show()
