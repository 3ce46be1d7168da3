"""Things that are no numbers, no holes, or of no kind at all, to be handed in where anything may be."""

FAR = 10 ** 9


class Strange:
    """A thing that can't be compared, measured or shown."""

    def refuse(self, *rest):
        raise RuntimeError("not to be asked")

    __eq__ = __lt__ = __len__ = __getitem__ = __iter__ = __repr__ = __bool__ = refuse
    __hash__ = None


NO_NUMBERS = (True, False, None, "1", "", 1.0, 0.0, 1j, float("nan"), b"1", (), (1,), [], [1], {}, {1}, int, Strange())
NO_HOLES = (
    None, True, False, 0, 1, 3.5, "", "ab", "(0, 0)", b"ab", int, tuple, len,
    [], [0, 0], {}, {0: 0, 1: 1}, {0, 1}, frozenset((0, 1)), range(2), iter((0, 1)), Strange(),
    (), (0,), (0, 0, 0), (0, 0, None), ((0, 0),), ((0, 0), 0), (0, (0, 0)),
)
BEYOND = tuple(
    hole
    for much in (FAR + 1, -FAR - 1, 2 * FAR, -2 * FAR, 10 ** 18, -10 ** 18, 10 ** 60 - 1, 1 - 10 ** 60)
    for hole in ((much, 0), (0, much), (much, much))
)
