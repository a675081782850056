"""Two edits, the one behind the other, put together to one."""

from editvalues.steps import DROP, KEEP, PAINT, PUT, in_form


def composed(r, s):
    """The edit that does what r and then s does, or None if the two do not go together."""
    steps = []
    i = 0
    j = 0
    while i < len(r) or j < len(s):
        if i < len(r) and r[i][0] == DROP:
            steps.append(r[i])
            i += 1
        elif j < len(s) and s[j][0] == PUT:
            steps.append(s[j])
            j += 1
        else:
            made = made_of(r[i], s[j]) if i < len(r) and j < len(s) else None
            if made is None:
                return None
            steps.extend(made)
            i += 1
            j += 1
    return in_form(steps)


def made_of(brings, takes):
    """The steps (one or none) that the two steps at one letter make, or None if they do not go together."""
    if brings[0] == KEEP:
        return [takes]
    if takes[0] == KEEP:
        return [brings]
    if brings[0] == PAINT:
        return made_of_painted(brings[1], brings[2], takes)
    return made_of_put(brings[1], brings[2], takes)


def made_of_painted(f, g, takes):
    """The same for a letter that is painted from f to g, and then painted or dropped."""
    if takes[0] == PAINT and takes[1] == g:
        return [(KEEP, 0, 0)] if f == takes[2] else [(PAINT, f, takes[2])]
    if takes[0] == DROP and takes[2] == g:
        return [(DROP, takes[1], f)]
    return None


def made_of_put(sign, g, takes):
    """The same for a letter that is put with the look g, and then painted or dropped."""
    if takes[0] == PAINT and takes[1] == g:
        return [(PUT, sign, takes[2])]
    if takes == (DROP, sign, g):
        return []
    return None
