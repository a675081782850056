"""An edit done to a text."""

from editvalues.steps import DROP, KEEP, PAINT, PUT, old_length


def applied(steps, text):
    """The new text that the edit makes of the text, or None if it does not fit it."""
    if old_length(steps) != len(text):
        return None
    made = []
    at = 0
    for step in steps:
        if step[0] == PUT:
            made.append((step[1], step[2]))
        elif takes(step, text[at]):
            made.extend(brought(step, text[at]))
            at += 1
        else:
            return None
    return made


def takes(step, letter):
    """Whether the step finds in the letter what it must."""
    if step[0] == PAINT:
        return letter[1] == step[1]
    if step[0] == DROP:
        return letter == (step[1], step[2])
    return True


def brought(step, letter):
    """What comes to the new text of the letter that the step takes."""
    if step[0] == KEEP:
        return [letter]
    if step[0] == PAINT:
        return [(letter[0], step[2])]
    return []
