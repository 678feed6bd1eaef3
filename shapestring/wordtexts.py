"""Words written as texts, and read again (point 14)."""

from shapestring.errors import NoText
from shapestring.fronts import PLAIN_SIGNS
from shapestring.kinds import is_figures


def show_letter(letter):
    if letter[0] != "S":
        return letter[0]
    sign, j, k = letter
    return f"{sign}{j}.{k}"


def show_word(word):
    return "".join([show_letter(letter) for letter in word])


def figures_end(text, at):
    """Where the figures from at on end."""
    end = at
    while end < len(text) and text[end].isdigit():
        end += 1
    return end


def read_numbers(text, at):
    """The numbers j and k of an S, with a point between, and where they end."""
    point = figures_end(text, at)
    end = figures_end(text, point + 1)
    j = text[at:point]
    k = text[point + 1:end]
    if not is_figures(j) or text[point:point + 1] != "." or not is_figures(k):
        raise NoText("behind S stand two numbers without noughts ahead, with a point between")
    return (int(j), int(k), end)


def read_letter(text, at):
    """The letter that begins at this place, and where it ends."""
    if text[at] in PLAIN_SIGNS:
        return ((text[at],), at + 1)
    if text[at] != "S":
        raise NoText("a letter is one of C, R, L, E, S")
    j, k, end = read_numbers(text, at + 1)
    return (("S", j, k), end)


def read_word(text):
    """The letters of the text, whether they are a word or not, or NoText."""
    if not isinstance(text, str):
        raise NoText("what is read is no text at all")
    letters = []
    at = 0
    while at < len(text):
        letter, at = read_letter(text, at)
        letters.append(letter)
    return letters
