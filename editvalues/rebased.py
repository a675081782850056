"""Two edits of one old text, each carried over the other."""

from editvalues.steps import DROP, KEEP, PAINT, PUT, in_form


def rebased(r, s, r_first):
    """r over s and s over r, as a tuple, or None if the two do not go together."""
    r_over = []
    s_over = []
    i = 0
    j = 0
    while i < len(r) or j < len(s):
        r_puts = i < len(r) and r[i][0] == PUT
        s_puts = j < len(s) and s[j][0] == PUT
        if r_puts and (r_first or not s_puts):
            r_over.append(r[i])
            s_over.append((KEEP, 0, 0))
            i += 1
        elif s_puts:
            r_over.append((KEEP, 0, 0))
            s_over.append(s[j])
            j += 1
        else:
            both = carried(r[i], s[j], r_first) if i < len(r) and j < len(s) else None
            if both is None:
                return None
            r_over.extend(both[0])
            s_over.extend(both[1])
            i += 1
            j += 1
    return (in_form(r_over), in_form(s_over))


def carried(one, other, one_first):
    """What two steps that take the same letter become: the steps (one or none) of the one's edit
    over the other's, and those of the other's over the one's; None if they do not go together."""
    if one[0] == KEEP:
        return (kept_beside(other), [other])
    if other[0] == KEEP:
        return ([one], kept_beside(one))
    if one[0] == PAINT and other[0] == PAINT:
        return both_painted(one, other, one_first)
    if one[0] == PAINT:
        dropped = dropped_painted(one, other)
        return None if dropped is None else ([], dropped)
    if other[0] == PAINT:
        dropped = dropped_painted(other, one)
        return None if dropped is None else (dropped, [])
    return ([], []) if one == other else None


def kept_beside(other):
    """What a keep becomes over another step at its letter: a dropped letter is not there to be kept."""
    return [] if other[0] == DROP else [(KEEP, 0, 0)]


def both_painted(one, other, one_first):
    """The first one's look is the one that stays."""
    if one[1] != other[1]:
        return None
    keep = (KEEP, 0, 0)
    if one[2] == other[2]:
        return ([keep], [keep])
    if one_first:
        return ([(PAINT, other[2], one[2])], [keep])
    return ([keep], [(PAINT, one[2], other[2])])


def dropped_painted(paint, drop):
    """The drop over the paint of its letter, which it finds with the new look; None if the looks differ."""
    if paint[1] != drop[2]:
        return None
    return [(DROP, drop[1], paint[2])]
