"""The rims of a skin (point 8)."""

from shapestring.rings import walked


def rim_steps(skin):
    """From each corner at a rim the next one; no corner is on a rim twice."""
    return {a: b for a, b in skin.thirds if (b, a) not in skin.thirds}


def rims(skin):
    onward = rim_steps(skin)
    told = []
    seen = {}
    # As the corners rise, each rim is met at its least one first.
    for corner in sorted(onward):
        if corner not in seen:
            rim = walked(onward, corner)
            told.append(rim)
            seen.update({each: True for each in rim})
    return told
