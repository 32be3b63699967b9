"""Deeds that a desk can do."""

from ordersbehind.checks import is_several


def kept_lot(things):
    """The things as a tuple if they are a list or tuple, otherwise the value itself."""
    return tuple(things) if is_several(things) else things


class Deed:
    """The base of the deeds, no deed itself."""

    def word(self):
        return "none"


class Put(Deed):
    """A new thing that is tied to its neighbours."""

    def __init__(self, neighbours):
        self.neighbours = kept_lot(neighbours)

    def word(self):
        return "put"


class Out(Deed):
    """A thing is left out."""

    def __init__(self, thing):
        self.thing = thing

    def word(self):
        return "out"


class Asked(Deed):
    """The arrow (first, second) is asked for."""

    def __init__(self, first, second):
        self.first = first
        self.second = second

    def word(self):
        return "asked"


class Placed(Deed):
    """A guest takes the place of a thing."""

    def __init__(self, thing, guest, guest_order):
        self.thing = thing
        self.guest = guest
        self.guest_order = guest_order

    def word(self):
        return "placed"


class Fused(Deed):
    """A part is made one thing."""

    def __init__(self, lot):
        self.lot = kept_lot(lot)

    def word(self):
        return "fused"


def words_behind(deed):
    """What the text of the deed tells behind its word."""
    if isinstance(deed, Put):
        return [str(thing) for thing in deed.neighbours]
    if isinstance(deed, Out):
        return [str(deed.thing)]
    if isinstance(deed, Asked):
        return [str(deed.first), str(deed.second)]
    if isinstance(deed, Placed):
        return [str(deed.thing), f"({deed.guest.size} things)"]
    if isinstance(deed, Fused):
        return [str(thing) for thing in deed.lot]
    return []


def deed_text(deed):
    """The word of the deed and what belongs to it."""
    return " ".join([deed.word()] + words_behind(deed))
