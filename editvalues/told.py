"""Edits told as numbers, part by part: read from a list, and told as one."""

from editvalues.letters import is_look, letters_told
from editvalues.steps import DROP, KEEP, PAINT, PUT

# How many numbers stand in a part ahead of its letters, by the part's kind; the last of them is its n.
HEADS = (2, 4, 2, 2)

MOST_IN_PART = 2000


def parts_told(numbers):
    """The parts of the edit, each as its own numbers, or None if the numbers tell no edit."""
    parts = []
    at = 0
    while at < len(numbers):
        end = part_end(numbers, at)
        if end is None:
            return None
        parts.append(numbers[at:end])
        at = end
    return parts


def part_end(numbers, at):
    """The index behind the part that begins at index at, or None if no part does."""
    kind = numbers[at]
    if kind < KEEP or kind > PUT:
        return None
    head_end = at + HEADS[kind]
    if head_end > len(numbers):
        return None
    n = numbers[head_end - 1]
    if n < 1 or n > MOST_IN_PART:
        return None
    if kind == KEEP:
        return head_end
    if kind == PAINT:
        return head_end if is_paint(numbers[at + 1], numbers[at + 2]) else None
    return letters_end(numbers, head_end, n)


def is_paint(f, g):
    return is_look(f) and is_look(g) and f != g


def letters_end(numbers, at, n):
    """The index behind the n letters that begin at index at, or None if they do not stand there."""
    end = at + 2 * n
    if end > len(numbers) or letters_told(numbers[at:end]) is None:
        return None
    return end


def part_n(part):
    return part[HEADS[part[0]] - 1]


# The lengths are counted from the parts, as thousands of parts could tell millions of steps.
def old_length_told(parts):
    return sum([part_n(part) for part in parts if part[0] != PUT])


def new_length_told(parts):
    return sum([part_n(part) for part in parts if part[0] != DROP])


def steps_of_parts(parts):
    steps = []
    for part in parts:
        steps.extend(steps_of_part(part))
    return steps


def steps_of_part(part):
    kind = part[0]
    if kind == KEEP:
        return [(KEEP, 0, 0)] * part_n(part)
    if kind == PAINT:
        return [(PAINT, part[1], part[2])] * part_n(part)
    return [(kind, letter[0], letter[1]) for letter in letters_told(part[HEADS[kind]:])]


def numbers_of_steps(steps):
    """The numbers that tell the edit, in as few parts as possible."""
    numbers = []
    at = 0
    while at < len(steps):
        end = run_end(steps, at)
        numbers.extend(part_of_run(steps[at:end]))
        at = end
    return numbers


def run_end(steps, at):
    """The index behind the last of the steps from index at on that one part can tell."""
    end = at + 1
    while end < len(steps) and share_part(steps[at], steps[end]):
        end += 1
    return end


def share_part(one, other):
    if one[0] == PAINT:
        return one == other
    return one[0] == other[0]


def part_of_run(run):
    step = run[0]
    if step[0] == KEEP:
        return [KEEP, len(run)]
    if step[0] == PAINT:
        return [PAINT, step[1], step[2], len(run)]
    part = [step[0], len(run)]
    for each in run:
        part.append(each[1])
        part.append(each[2])
    return part
