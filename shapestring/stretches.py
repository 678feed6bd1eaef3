"""The stretch by which one word becomes another (point 18)."""


def many_alike(one, other):
    """How many things both rows begin with alike."""
    many = 0
    for mine, yours in zip(one, other):
        if mine != yours:
            return many
        many += 1
    return many


def stretch(one, other):
    """The least stretch from the one word to the other."""
    at = many_alike(one, other)
    # What is alike ahead is not looked at again, so nothing is alike twice.
    behind = many_alike(one[at:][::-1], other[at:][::-1])
    return (at, len(one) - at - behind, other[at:len(other) - behind])


def with_stretch(word, told):
    """The word in which the letters of the stretch stand."""
    at, many, letters = told
    return word[:at] + letters + word[at + many:]
