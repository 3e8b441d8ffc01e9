"""The errors: one class for each kind of thing that is refused."""


class GroveError(ValueError):
    """Whatever Latchgrove refuses."""


class NoRoom(GroveError):
    """What was handed in is no room."""


class NoKey(GroveError):
    """What was handed in is no key."""


class NoValue(GroveError):
    """What was handed in is no value."""


class NoPage(GroveError):
    """What was handed in is no page, or none of the tree."""


class NoTree(GroveError):
    """What was handed in is no tree."""


class NoStretch(GroveError):
    """What was handed in is no stretch."""


class NoDeed(GroveError):
    """What was handed in is no deed, or no row of deeds."""


class NoPairs(GroveError):
    """What was handed in are no pairs as they are asked for."""


class TooMany(GroveError):
    """What was handed in is no number of pairs whose shapes are counted."""


class NoNumber(GroveError):
    """What was handed in is no number of one of the things counted."""


class NoShape(GroveError):
    """What was handed in is no shape of a tree of the room."""


class NoHand(GroveError):
    """What was handed in is no hand."""


class Waits(GroveError):
    """The hand waits: it takes and lets nothing."""


class Holds(GroveError):
    """The hand holds what it would take."""


class HoldsNot(GroveError):
    """The hand does not hold what it would let."""


class NoPlans(GroveError):
    """What was handed in are no plans."""


class TooWide(GroveError):
    """More can be come to than is looked through."""


class NoPrograms(GroveError):
    """What was handed in are no programs."""


class NoRule(GroveError):
    """What was handed in is no rule."""


class NoRecords(GroveError):
    """What was handed in are no records."""


class NoDisk(GroveError):
    """What was handed in is no disk, or no tree comes up from it."""


class NoEvent(GroveError):
    """What was handed in is no event that can come."""


class NoText(GroveError):
    """What was handed in is no text of what is read."""


class NoCut(GroveError):
    """A disk cannot be cut because of one of its rows, whose number is kept."""

    def __init__(self, row):
        super().__init__(f"row {row} keeps the disk from being cut")
        self.row = row
