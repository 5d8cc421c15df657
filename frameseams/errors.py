"""The errors of the package, one class for each kind of failure."""


class SeamError(ValueError):
    """The base of all errors of this package."""


class InvalidWindow(SeamError):
    """What was passed, or what would come out, is no window."""


class InvalidHop(SeamError):
    """A hop is no integer of the allowed ones."""


class InvalidHops(SeamError):
    """What was passed is no list of hops."""


class InvalidNumber(SeamError):
    """A number is no integer of the allowed ones."""


class InvalidList(SeamError):
    """What was passed is no list of the allowed ones."""


class InvalidDeck(SeamError):
    """The level, the edges or the kinds make no deck."""


class InvalidStream(SeamError):
    """What was passed is no stream of the deck."""


class InvalidIndex(SeamError):
    """Nothing has this index."""


class NothingToUndo(SeamError):
    """There is no step that could be taken back."""


class NotEven(SeamError):
    """The rests rest and other have different sums."""

    def __init__(self, rest, other):
        super().__init__(f"the rests {rest} and {other} have different sums")
        self.rest = rest
        self.other = other


class NoPartner(SeamError):
    """The divisor of the rest does not divide the level."""

    def __init__(self, rest):
        super().__init__(f"the divisor of the rest {rest} does not divide the level")
        self.rest = rest


class NoList(SeamError):
    """The points that are joined with this one have different sums on their two sides."""

    def __init__(self, point):
        super().__init__(f"the sums of the points joined with {point} differ")
        self.point = point


class InvalidText(SeamError):
    """The word with this number cannot stand where it stands."""

    def __init__(self, place):
        super().__init__(f"the word {place} cannot stand there, or is missing")
        self.place = place
