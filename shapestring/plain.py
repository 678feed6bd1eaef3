"""Words without joins told by their signs alone (point 15)."""

from shapestring.errors import NoText

# How many corners a loop has ahead of its E; behind the first letter no loop has fewer.
LEAST_LOOP = 3
# How many corners the loop has with which all begins.
FIRST_LOOP = 2


def plain(word):
    """The signs of a word without joins."""
    return "".join([letter[0] for letter in word])


def taken_up(lengths):
    """The number put down last, which is there no more."""
    if not lengths:
        raise NoText("a sign doesn't find the number that it takes")
    return lengths.pop()


def letter_found(sign, lengths):
    """The letter of the sign; of the loops left behind it the lengths become those of the loops left ahead of it."""
    if sign == "S":
        k = taken_up(lengths)
        lengths.append(k + taken_up(lengths) - 1)
        return ("S", 0, k)
    if sign == "E":
        lengths.append(LEAST_LOOP)
    elif sign == "C":
        lengths.append(taken_up(lengths) - 1)
    elif sign == "L" or sign == "R":
        lengths.append(taken_up(lengths) + 1)
    else:
        raise NoText("a sign is one of C, R, L, E, S")
    return (sign,)


def placed(text):
    """The letters of the signs with their places, whether they are a word or not, or NoText."""
    if not isinstance(text, str):
        raise NoText("what is read is no text at all")
    lengths = []
    letters = []
    for ahead, sign in reversed(list(enumerate(text))):
        letters.append(letter_found(sign, lengths))
        if sign == "C" and ahead > 0 and lengths[-1] < LEAST_LOOP:
            raise NoText("a loop has three corners or more, but for the first one")
    if lengths != [FIRST_LOOP]:
        raise NoText("the signs don't lead back to the first loop alone")
    return letters[::-1]
