"""What a whole number, a corner and figures are, asked of anything."""


def is_whole(thing):
    return isinstance(thing, int) and not isinstance(thing, bool)


def is_corner(thing):
    return is_whole(thing) and thing >= 0


def is_figures(text):
    """Whether a text is a whole number from 0 on, without noughts ahead."""
    # isdigit alone would take the figures of other scripts, too.
    if not text.isascii() or not text.isdigit():
        return False
    return text == "0" or not text.startswith("0")
