"""The steps of an edit, and the form in which edits are held.

A step is a tuple: (KEEP, 0, 0), (PAINT, from look, to look), (DROP, sign, look) or (PUT, sign, look).
An edit is a list of steps. Such a list is never changed once it is made, so two edits may share it.
"""

KEEP = 0
PAINT = 1
DROP = 2
PUT = 3

# The most letters that a text has, and so the greatest length of an edit.
MOST = 2000


def old_length(steps):
    return len([step for step in steps if step[0] != PUT])


def new_length(steps):
    return len([step for step in steps if step[0] != DROP])


def in_form(steps):
    """The edit with all puts before all drops between one kept letter and the next."""
    formed = []
    drops = []
    for step in steps:
        if step[0] == DROP:
            drops.append(step)
        elif step[0] == PUT:
            formed.append(step)
        else:
            formed.extend(drops)
            formed.append(step)
            drops = []
    formed.extend(drops)
    return formed
