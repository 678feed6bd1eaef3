"""The pieces of a skin, and its numbers (point 9)."""

from shapestring.rims import rims


def piece_of(skin, corner):
    """All corners that hang together with this one, rising."""
    found = {corner: True}
    waiting = [corner]
    while waiting:
        here = waiting.pop()
        # One corner on in each triangle is enough: three such steps lead about it.
        for beside in skin.steps[here]:
            if beside not in found:
                found[beside] = True
                waiting.append(beside)
    return sorted(found)


def pieces(skin):
    told = []
    seen = {}
    for corner in skin.corners():
        if corner not in seen:
            piece = piece_of(skin, corner)
            told.append(piece)
            seen.update({each: True for each in piece})
    return told


def many_sides(skin):
    """How many sides there are, a side and the same turned about being one."""
    return len([1 for a, b in skin.thirds if a < b or (b, a) not in skin.thirds])


def counted(skin):
    """The numbers of corners, sides, triangles, pieces, handles and rims."""
    corners = len(skin.corners())
    sides = many_sides(skin)
    triangles = len(skin.triangles())
    parts = len(pieces(skin))
    edges = len(rims(skin))
    handles = (2 * parts - edges - corners + sides - triangles) // 2
    return (corners, sides, triangles, parts, handles, edges)
