"""Rows and rings of steps, each from one corner to the one that follows it."""


def first_of(onward):
    """Where a row of steps begins, or the least corner of a ring."""
    reached = list(onward.values())
    begins = [p for p in onward if p not in reached]
    return begins[0] if begins else min(onward)


def walked(onward, begin):
    """The corners from begin on, up to the end of a row or once about a ring."""
    row = [begin]
    while onward.get(row[-1], begin) != begin:
        row.append(onward[row[-1]])
    return row


def pairs_about(ring):
    """Each with the next one, and the last with the first."""
    return list(zip(ring, ring[1:] + ring[:1]))
