"""An edit turned round: the one that brings the new text back to the old one."""

from editvalues.steps import DROP, PAINT, PUT, in_form


def turned(steps):
    return in_form([turned_step(step) for step in steps])


def turned_step(step):
    if step[0] == PAINT:
        return (PAINT, step[2], step[1])
    if step[0] == DROP:
        return (PUT, step[1], step[2])
    if step[0] == PUT:
        return (DROP, step[1], step[2])
    return step
