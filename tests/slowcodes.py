"""Slow readings of points 15 and 16, to hold the program against."""

CODES = {"C": "0", "S": "100", "R": "101", "L": "110", "E": "111"}


class Wrong(Exception):
    """A text that is not right by point 15."""


def loop_from(text, at):
    """The loop that the signs from at on end: how many corners it has, the letters, and where they end.

    Read from the first sign on, where the document goes from the last one.
    """
    if at >= len(text) or text[at] not in CODES:
        raise Wrong
    sign = text[at]
    if sign == "E":
        return (3, [("E",)], at + 1)
    if sign == "S":
        k, within, middle = loop_from(text, at + 1)
        m, beyond, end = loop_from(text, middle)
        return (k + m - 1, [("S", 0, k)] + within + beyond, end)
    length, letters, end = loop_from(text, at + 1)
    length += {"C": -1, "L": 1, "R": 1}[sign]
    if sign == "C" and at > 0 and length < 3:
        raise Wrong
    return (length, [(sign,)] + letters, end)


def placed(text):
    """The letters that point 15 tells, or None."""
    try:
        length, letters, end = loop_from(text, 0)
    except Wrong:
        return None
    return letters if length == 2 and end == len(text) else None


def number_bits(n):
    figures = format(n + 1, "b")
    return "0" * (len(figures) - 1) + figures


def bits_of(word, caps):
    join = any(letter[0] == "S" and letter[1] > 0 for letter in word)
    told = "1" if join else "0"
    for letter in word:
        told += CODES[letter[0]]
        if join:
            told += "".join(number_bits(n) for n in letter[1:])
    told += number_bits(len(caps))
    for at, cap in enumerate(caps):
        told += number_bits(cap - caps[at - 1] if at else cap)
    return told
