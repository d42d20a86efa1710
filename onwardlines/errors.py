"""The errors that the package raises."""


class HeadwayError(ValueError):
    """What all errors of the package have in common."""


class InvalidLine(HeadwayError):
    """Numbers that make no line, or an object that is none."""


class InvalidRoute(HeadwayError):
    """Legs that make no route, or an object that is none."""


class InvalidWishes(HeadwayError):
    """Lines and wishes that make no plan, or an object that is no timetable."""


class InvalidFixed(HeadwayError):
    """Fixed departures that a plan cannot have."""


class InvalidNumber(HeadwayError):
    """A number of rounds, or of one among several, out of range."""


class InvalidIndex(HeadwayError):
    """A number that counts no leg, line, wish or mark."""


class NotFitting(HeadwayError):
    """Two headways of which none divides the other."""


class NothingToUndo(HeadwayError):
    """A net without a call that could be undone."""


class NotPossible(HeadwayError):
    """There is no timetable; ring is the certificate that shows it."""

    def __init__(self, ring):
        super().__init__("there is no timetable")
        self.ring = ring


class InvalidText(HeadwayError):
    """A text that cannot be read; word is the number of its first wrong word."""

    def __init__(self, word):
        super().__init__("this word cannot stand there")
        self.word = word
