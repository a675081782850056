"""What an edit does to the places and stretches of its old text."""

from editvalues.steps import DROP, PUT, new_length


def kept_letters(steps):
    """The kept letters in order, each as (old index, new index)."""
    letters = []
    old = 0
    new = 0
    for step in steps:
        if step[0] == PUT:
            new += 1
        elif step[0] == DROP:
            old += 1
        else:
            letters.append((old, new))
            old += 1
            new += 1
    return letters


def backward(steps, p):
    """Place p carried to behind the last kept letter before it."""
    carried = 0
    for letter in kept_letters(steps):
        if letter[0] < p:
            carried = letter[1] + 1
    return carried


def forward(steps, p):
    """Place p carried to before the first kept letter at it or behind."""
    for letter in kept_letters(steps):
        if letter[0] >= p:
            return letter[1]
    return new_length(steps)


def carried_stretch(steps, p, q, grows_at_beginning, grows_at_end):
    """Where the stretch from p to q begins and ends in the new text, as a tuple."""
    begin = backward(steps, p) if grows_at_beginning else forward(steps, p)
    end = forward(steps, q) if grows_at_end else backward(steps, q)
    # With none of its letters left, a stretch that does not grow would begin behind the puts and end before them.
    return (min(begin, end), end)


def count_kept(steps, p, q):
    """How many kept letters stand in the stretch from p to q."""
    return len([letter for letter in kept_letters(steps) if p <= letter[0] < q])


def kept_stretches(steps):
    """The kept letters in stretches as long as can be, each as (old index, new index, how many letters)."""
    stretches = []
    letters = kept_letters(steps)
    at = 0
    while at < len(letters):
        end = stretch_end(letters, at)
        stretches.append((letters[at][0], letters[at][1], end - at))
        at = end
    return stretches


def stretch_end(letters, at):
    """The index behind the last of the kept letters that go on from index at without a gap in either text."""
    end = at + 1
    while end < len(letters) and letters[end] == (letters[end - 1][0] + 1, letters[end - 1][1] + 1):
        end += 1
    return end
