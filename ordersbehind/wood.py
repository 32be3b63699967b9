"""The wood of a web: its strong parts, one inside the other."""

from ordersbehind.checks import first_bad_thing, is_several, is_whole, number_of_kind, thing_of
from ordersbehind.errors import BadThing
from ordersbehind.masks import all_of, contrary_masks, pieces_in, things_in
from ordersbehind.parts import smallest_part


class Knot:
    """A strong part of two things or more. Made by Wood alone."""

    def __init__(self, lot, kind, children, number):
        self.lot = lot
        self.kind = kind
        self.children = children
        self.number = number

    def child(self, thing):
        """The number of the child that has the thing."""
        if is_whole(thing):
            for number, lot in enumerate(self.children):
                if thing in lot:
                    return number
        raise BadThing("thing")

    def leaders(self):
        """The least things of the children."""
        return tuple([lot[0] for lot in self.children])


class Wood:
    """All strong parts of a web."""

    FREE = "free"
    FULL = "full"
    FIRM = "firm"

    def __init__(self, web):
        self.web = web
        self.knots = tuple([Knot(lot, kind, children, number)
                            for number, (lot, kind, children) in enumerate(knots_told(web))])

    @staticmethod
    def kinds():
        return Wood.FREE, Wood.FULL, Wood.FIRM

    @property
    def height(self):
        """The greatest number of knots that contain one and the same thing."""
        return max([len(self.knots_over(thing)) for thing in range(self.web.size)])

    def lots(self):
        """The lots of the knots, then the single things."""
        return tuple([knot.lot for knot in self.knots] + [(thing,) for thing in range(self.web.size)])

    def parting(self, first, second):
        """The smallest knot that contains both things."""
        thing_of(self.web.size, first, "first")
        thing_of(self.web.size, second, "second")
        if first == second:
            raise BadThing("second")
        return [knot for knot in self.knots if first in knot.lot and second in knot.lot][-1]

    def knots_over(self, thing):
        """The knots that contain the thing, the smallest first."""
        thing_of(self.web.size, thing)
        return tuple([knot for knot in reversed(self.knots) if thing in knot.lot])

    def parent(self, number):
        """The number of the smallest knot around the knot with this number, None for knot 0."""
        knot = self.knots[knot_number(self, number)]
        around = [other.number for other in self.knots[:number] if knot.lot[0] in other.lot]
        return around[-1] if around else None

    def __len__(self):
        return len(self.knots)

    def __contains__(self, lot):
        if not is_several(lot) or first_bad_thing(self.web.size, lot) >= 0:
            return False
        return tuple(sorted(lot)) in self.lots()

    def __iter__(self):
        return iter(self.knots)


def in_sequence(lots):
    """Lots of a wood, tuples, in the sequence of the method lots."""
    return tuple(sorted(lots, key=lambda lot: (-len(lot), lot)))


def knots_told(web):
    """The lots, kinds and children of the knots, in the sequence of their numbers."""
    found = []
    waiting = [all_of(web.size)]
    while waiting:
        lot = waiting.pop()
        if lot & (lot - 1):
            kind, children = split_knot(web.masks, lot)
            found.append((things_in(lot), kind, tuple([things_in(child) for child in children])))
            waiting.extend(children)
    return sorted(found, key=lambda told: (-len(told[0]), told[0]))


def split_knot(masks, lot):
    """The kind and the children, by their least things, of the knot with the lot; lots as masks."""
    pieces = pieces_in(masks, lot)
    if len(pieces) > 1:
        return Wood.FREE, pieces
    pieces = pieces_in(contrary_masks(masks), lot)
    if len(pieces) > 1:
        return Wood.FULL, pieces
    return Wood.FIRM, firm_children(masks, lot)


def firm_children(masks, lot):
    """The children of a firm knot, by their least things."""
    children = []
    left = lot
    while left:
        child = firm_child(masks, lot, left & -left)
        children.append(child)
        left = left & ~child
    return children


def firm_child(masks, lot, thing):
    """The child of a firm knot that has the thing.

    Two things of one child are together in a part inside it; no part but the whole lot has things
    of different children.
    """
    child = thing
    for other in things_in(lot & ~thing):
        part = smallest_part(masks, lot, thing | (1 << other))
        if part != lot:
            child = child | part
    return child


def knot_number(wood, number):
    """The number, if a knot has it."""
    return number_of_kind(number, 0, len(wood.knots) - 1, "number")


def quotient(wood, number):
    """The web on the least things of the knot's children."""
    return wood.web.on(wood.knots[knot_number(wood, number)].leaders())


def count_parts(wood):
    """The number of parts of the web."""
    many = wood.web.size
    for knot in wood.knots:
        children = len(knot.children)
        many = many + (1 if knot.kind == Wood.FIRM else (1 << children) - children - 1)
    return many
