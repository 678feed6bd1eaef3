"""Words and caps written as bits, and read again (point 16)."""

from shapestring.errors import NoCode, ShapeError
from shapestring.plain import placed, plain
from shapestring.words import wound_on

# No one of these begins another one, so no sign stands between them.
CODES = {"C": "0", "S": "100", "R": "101", "L": "110", "E": "111"}


def is_join(letter):
    return letter[0] == "S" and letter[1] > 0


def has_join(word):
    return any([is_join(letter) for letter in word])


def number_bits(number):
    """The number and 1 in binary figures, with as many 0 ahead as it has figures less one."""
    figures = ""
    left = number + 1
    while left > 0:
        figures = str(left & 1) + figures
        left = left // 2
    return "0" * (len(figures) - 1) + figures


def letter_bits(letter, with_places):
    code = CODES[letter[0]]
    if letter[0] != "S" or not with_places:
        return code
    sign, j, k = letter
    return code + number_bits(j) + number_bits(k)


def caps_bits(caps):
    told = number_bits(len(caps))
    ahead = 0
    for cap in caps:
        told += number_bits(cap - ahead)
        ahead = cap
    return told


def bits_of(word, caps):
    """The bits of a word and caps that are wound on to a skin."""
    with_places = has_join(word)
    letters = "".join([letter_bits(letter, with_places) for letter in word])
    return ("1" if with_places else "0") + letters + caps_bits(caps)


def read_sign(text, at):
    """The sign whose bits begin at this place, and where they end."""
    for sign, code in CODES.items():
        if text[at:at + len(code)] == code:
            return (sign, at + len(code))
    raise NoCode("here the bits of a letter should stand")


def read_number(text, at):
    """The number whose bits begin at this place, and where they end."""
    first = text.find("1", at)
    end = first + first - at + 1
    if first < 0 or end > len(text):
        raise NoCode("here the bits of a number should stand")
    number = 0
    for figure in text[first:end]:
        number = 2 * number + int(figure)
    return (number - 1, end)


def read_letter_bits(text, at, with_places):
    """The letter whose bits begin at this place, and where they end; places that aren't told are 0."""
    sign, end = read_sign(text, at)
    if sign != "S":
        return ((sign,), end)
    if not with_places:
        return ((sign, 0, 0), end)
    j, end = read_number(text, end)
    k, end = read_number(text, end)
    return ((sign, j, k), end)


def loops_more(letter):
    """How many loops more there are behind a letter than ahead of it."""
    if letter[0] == "E" or is_join(letter):
        return -1
    return 1 if letter[0] == "S" else 0


def read_letters(text, at):
    """The letters from this place on up to the one behind which no loop is left, and where they end."""
    with_places = text[0] == "1"
    letters = []
    loops = 1
    while loops > 0:
        letter, at = read_letter_bits(text, at, with_places)
        letters.append(letter)
        loops += loops_more(letter)
    return (letters if with_places else placed(plain(letters)), at)


def read_caps(text, at):
    """The caps from this place on, and where they end."""
    many, at = read_number(text, at)
    caps = []
    cap = 0
    while len(caps) < many:
        more, at = read_number(text, at)
        cap += more
        caps.append(cap)
    return (caps, at)


def read_code(text):
    """The word and the caps that the bits lead to, which may be the bits of others all the same."""
    if [sign for sign in text if sign not in ("0", "1")] or text == "":
        raise NoCode("bits are 0 and 1, and there is one at least")
    word, at = read_letters(text, 1)
    caps, at = read_caps(text, at)
    wound_on(word, caps)
    return (word, caps)


def read_bits(text):
    """The word and the caps whose bits these are, or NoCode."""
    if not isinstance(text, str):
        raise NoCode("what is read is no text at all")
    try:
        told = read_code(text)
    except ShapeError:
        raise NoCode("these are not the bits of a word and its caps")
    word, caps = told
    # A wrong first bit, or bits behind the caps, would be passed over else.
    if bits_of(word, caps) != text:
        raise NoCode("the word and its caps have other bits than these")
    return told
