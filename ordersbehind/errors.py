"""The errors of the package. Each takes its attributes by position, in the sequence of its `__init__`."""


class BehindError(ValueError):
    """The base of every error of the package."""


class BadNumber(BehindError):
    """An argument is no integer or is out of its bounds; name is the parameter's name."""

    def __init__(self, name):
        self.name = name


class BadThing(BehindError):
    """An argument is no thing; name is the parameter's name."""

    def __init__(self, name):
        self.name = name


class BadPair(BehindError):
    """The pair at this index is bad or stood earlier; -1 for the whole."""

    def __init__(self, place):
        self.place = place


class BadLot(BehindError):
    """The thing at this index of a lot is bad or stood earlier; -1 for the whole."""

    def __init__(self, place):
        self.place = place


class BadRow(BehindError):
    """The thing at this index of a row is bad or stood earlier; -1 for the whole."""

    def __init__(self, place):
        self.place = place


class BadText(BehindError):
    """The line with this number, from 1, is bad; 0 for arrows that are not closed."""

    def __init__(self, line):
        self.line = line


class BadWays(BehindError):
    """The entry at this index of ways is wrong; -1 for the whole."""

    def __init__(self, place):
        self.place = place


class BadSizes(BehindError):
    """The entry at this index of sizes is wrong; -1 for the whole."""

    def __init__(self, place):
        self.place = place


class BadLevels(BehindError):
    """The entry at this index of levels is wrong; -1 for the whole."""

    def __init__(self, place):
        self.place = place


class BadSpan(BehindError):
    """The entry at this index of spans is no span; -1 for the whole."""

    def __init__(self, place):
        self.place = place


class BadCrowds(BehindError):
    """The entry at this index of a row of crowds is wrong; -1 for the whole."""

    def __init__(self, place):
        self.place = place


class BadDeed(BehindError):
    """The entry at this index is no deed; -1 for the whole."""

    def __init__(self, place):
        self.place = place


class NotTied(BehindError):
    """The pair, as passed, is not tied."""

    def __init__(self, first, second):
        self.first = first
        self.second = second


class NotArrow(BehindError):
    """The pair is no arrow of the order."""

    def __init__(self, first, second):
        self.first = first
        self.second = second


class NotClosed(BehindError):
    """(first, second) and (second, third) are arrows and (first, third) is not."""

    def __init__(self, first, second, third):
        self.first = first
        self.second = second
        self.third = third


class NotBehind(BehindError):
    """An order is not behind a web: the least pair tied in one alone, or (-1, -1)."""

    def __init__(self, first, second):
        self.first = first
        self.second = second


class OtherWeb(BehindError):
    """Two orders have different webs: the least pair tied in one alone, or (-1, -1)."""

    def __init__(self, first, second):
        self.first = first
        self.second = second


class NotPart(BehindError):
    """A lot is no part: the thing is not alike for all its things."""

    def __init__(self, thing):
        self.thing = thing


class NotLoose(BehindError):
    """The colour of the tie is not loose in the order."""

    def __init__(self, first, second):
        self.first = first
        self.second = second


class NotInLine(BehindError):
    """A row is not in line with an order: the arrow goes backwards in it."""

    def __init__(self, first, second):
        self.first = first
        self.second = second


class NotDrawing(BehindError):
    """Two rows are no drawing of a web: the pair for which they are not."""

    def __init__(self, first, second):
        self.first = first
        self.second = second


class NotCrowd(BehindError):
    """A lot is no crowd."""


class NotBar(BehindError):
    """A lot is no least barred lot."""


class NotHeld(BehindError):
    """No order has all of the told arrows."""


class NoMiddle(BehindError):
    """Three orders have no middle: the three things lead round in a ring."""

    def __init__(self, things):
        self.things = things


class NothingDone(BehindError):
    """No deed is kept that could be taken back."""


class NoOrders(BehindError):
    """No order is behind the web; ring is an odd ring of it."""

    def __init__(self, ring):
        self.ring = ring


class NoRows(BehindError):
    """There are no rows: ring is an odd ring of the web, or of its contrary."""

    def __init__(self, ring, contrary):
        self.ring = ring
        self.contrary = contrary


class NoSpans(BehindError):
    """The web is no web of spans: a bare four, or an odd ring of its contrary."""

    def __init__(self, four, ring):
        self.four = four
        self.ring = ring


class TooMany(BehindError):
    """More is asked for than a listing or a count allows; name says of what."""

    def __init__(self, name):
        self.name = name
