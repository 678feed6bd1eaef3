"""Two skins told alike, or where their words part (point 21)."""

from shapestring.least import least, word_and_caps
from shapestring.pieces import pieces
from shapestring.stretches import many_alike


def sorted_leasts(skin):
    """The least of each piece, sorted by word and caps."""
    return sorted([least(skin, piece[0]) for piece in pieces(skin)], key=word_and_caps)


def corner_pairs(ours, theirs):
    """The corners of like pieces, each with the one that came as it did; caps have no names."""
    pairs = []
    for mine, yours in zip(ours, theirs):
        pairs += [(a, b) for a, b in zip(mine[2], yours[2]) if a is not None]
    return sorted(pairs)


def paired(one, other):
    """("alike", pairs of corners), or ("unlike", piece, at)."""
    ours = sorted_leasts(one)
    theirs = sorted_leasts(other)
    for piece, (mine, yours) in enumerate(zip(ours, theirs)):
        if word_and_caps(mine) != word_and_caps(yours):
            return ("unlike", piece, many_alike(mine[0], yours[0]))
    if len(ours) != len(theirs):
        return ("unlike", min(len(ours), len(theirs)), 0)
    return ("alike", corner_pairs(ours, theirs))
