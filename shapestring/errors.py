"""The refusals of the program, all straight under ShapeError."""


class ShapeError(ValueError):
    """Any refusal."""


class TooMany(ShapeError):
    """More things than a skin may have."""


class NoText(ShapeError):
    """What is no text of the form asked for."""


class NoCorner(ShapeError):
    """What is no corner of the skin."""


class NoSide(ShapeError):
    """What is no side of the skin."""


class NoLetter(ShapeError):
    """A letter that can't be put on the front."""


class NoCaps(ShapeError):
    """What are no caps of the word."""


class NoCode(ShapeError):
    """What are not the bits of a word and caps."""


class NoDeed(ShapeError):
    """What is no deed."""


class Taken(ShapeError):
    """A corner that should be new, and is the skin's."""


class Gone(ShapeError):
    """A side that the changed skin has no more."""


class NoPast(ShapeError):
    """No deed is left to undo."""


class NoSkin(ShapeError):
    """Triples that are no skin; fault tells why, as point 4 has it."""

    def __init__(self, fault):
        ShapeError.__init__(self, f"no skin: {fault!r}")
        self.fault = fault


class Spoilt(ShapeError):
    """A deed that leaves no skin; kind tells why, as point 17 has it."""

    def __init__(self, kind):
        ShapeError.__init__(self, f"the deed leaves no skin: {kind!r}")
        self.kind = kind


class NoWord(ShapeError):
    """Letters that are no word; at is the number of the first that can't be put."""

    def __init__(self, at):
        ShapeError.__init__(self, f"no word, at letter {at!r}")
        self.at = at
