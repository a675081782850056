"""Edits made from a text and what is to be done to a stretch of it."""

from editvalues.steps import DROP, KEEP, PAINT, PUT


def replacing(text, p, q, letters):
    """The edit that puts the letters in the place of the text's own from p to q."""
    before = [(KEEP, 0, 0)] * p
    puts = [(PUT, letter[0], letter[1]) for letter in letters]
    drops = [(DROP, letter[0], letter[1]) for letter in text[p:q]]
    behind = [(KEEP, 0, 0)] * (len(text) - q)
    return before + puts + drops + behind


def repainting(text, p, q, g):
    """The edit that gives the letters of the text from p to q the look g."""
    before = [(KEEP, 0, 0)] * p
    between = [painting(letter[1], g) for letter in text[p:q]]
    behind = [(KEEP, 0, 0)] * (len(text) - q)
    return before + between + behind


def painting(f, g):
    """The step that gives the look g to a letter with the look f; a paint is between unlike looks."""
    return (KEEP, 0, 0) if f == g else (PAINT, f, g)
