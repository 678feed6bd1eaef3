"""Things of any kind, to be handed in where something else is asked for."""


class Strange:
    """A thing that bears no comparison."""

    __hash__ = None

    def __eq__(self, other):
        raise AssertionError("compared")

    def __len__(self):
        raise AssertionError("measured")

    def __bool__(self):
        raise AssertionError("asked whether it is so")


# No corner, no side, no letter, no text of a word, and no cap.
THINGS = [
    None, True, False, -1, -10 ** 60, 1.5, float("nan"), 2 + 0j, "0", "x", " ", "0 1", "S", b"", b"C", b"0",
    [], [0], [0, 1], ["C"], [("C",)], {}, {0: 1}, {"C"}, {0, 1}, frozenset({0}), range(2), iter([0, 1]),
    object(), Strange(), int, len, (), (None,), (Strange(),), (Strange(), Strange()), (0,), ((0, 1),),
    (Strange(), 0, 0), ("S", Strange(), 0), ("S", 0, Strange()), ([], []), ({}, 1), ((), ()), ([0, 1],),
]
