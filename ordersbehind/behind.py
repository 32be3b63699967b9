"""All orders behind a web: free choices at the knots of its wood."""

from math import factorial

from ordersbehind.checks import first_bad_thing, is_several, is_whole, number_of_kind, pair_of
from ordersbehind.classes import class_from, colour_of
from ordersbehind.colourwood import knot_colours
from ordersbehind.errors import BadWays, NoOrders, TooMany
from ordersbehind.orders import Order, check_behind, is_behind
from ordersbehind.ranks import rank_of, row_with_rank
from ordersbehind.rings import odd_ring
from ordersbehind.wood import Wood

MOST_LISTED = 5000


class Behind:
    """The orders behind a web. Its leads are, for each knot that chooses, the arrows that the entry 0 means.

    They are told for firm knots alone, and () for full ones.
    """

    def __init__(self, web):
        ring = odd_ring(web)
        if ring is not None:
            raise NoOrders(ring)
        self.web = web
        self.wood = Wood(web)
        self.places = tuple([knot.number for knot in self.wood.knots if knot.kind != Wood.FREE])
        self.leads = tuple([lead_at(self.wood, number) for number in self.places])

    @property
    def many(self):
        """The number of orders behind the web."""
        total = 1
        for number in self.places:
            total = total * entries_at(self.wood, number)
        return total

    def order_of(self, ways):
        """The order that the ways mean."""
        arrows = []
        for number, lead, entry in zip(self.places, self.leads, ways_from(self, ways)):
            arrows.extend(arrows_at(self.wood.knots[number], lead, entry))
        return Order(self.web.size, arrows)

    def ways_of(self, order):
        """The ways that mean the order."""
        check_behind(order, self.web)
        ways = []
        for number, lead in zip(self.places, self.leads):
            if lead:
                ways.append(0 if lead[0] in order else 1)
            else:
                ways.append(row_of_leaders(order, self.wood.knots[number].leaders()))
        return tuple(ways)

    def number_of(self, order):
        """The number of the order."""
        return number_of_ways(self, self.ways_of(order))

    def at(self, number):
        """The order with the number."""
        return self.order_of(ways_with_number(self, number_of_kind(number, 0, self.many - 1, "number")))

    def colour_ways(self, order, tie):
        """True if the order has the least tie of the tie's colour with the lesser thing below."""
        tie = pair_of(self.web.size, tie)
        check_behind(order, self.web)
        return colour_of(self.web, tie)[0] in order

    def by_number(self):
        """All orders behind the web, one after the other."""
        if self.many > MOST_LISTED:
            raise TooMany("orders")
        for number in range(self.many):
            yield self.at(number)

    def __contains__(self, order):
        return isinstance(order, Order) and is_behind(order, self.web)

    def __eq__(self, other):
        return isinstance(other, Behind) and self.web == other.web


def lead_at(wood, number):
    """The class of the least tie that parts at the knot, its lesser thing below; () if the knot is full."""
    if wood.knots[number].kind == Wood.FULL:
        return ()
    return class_from(wood.web, knot_colours(wood, number)[0][0])


def entries_at(wood, number):
    """How many entries the knot has to choose from."""
    knot = wood.knots[number]
    return factorial(len(knot.children)) if knot.kind == Wood.FULL else 2


def arrows_at(knot, lead, entry):
    """The arrows that the entry of a knot means; lead is the knot's own."""
    if knot.kind == Wood.FULL:
        return arrows_of_row(knot, entry)
    return lead if entry == 0 else [(second, first) for first, second in lead]


def arrows_of_row(knot, row):
    """The arrows between the children of a full knot, from each child to all that stand behind it in the row."""
    behind = [(one, other) for place, one in enumerate(row) for other in row[place + 1:]]
    return [(a, b) for one, other in behind for a in knot.children[one] for b in knot.children[other]]


def row_of_leaders(order, leaders):
    """The numbers of the leaders, from the lowest in the order to the highest."""
    row = [0] * len(leaders)
    for number, leader in enumerate(leaders):
        row[len([other for other in leaders if order.has(other, leader)])] = number
    return tuple(row)


def is_row_of(many, value):
    """True if the value is a list or tuple of the numbers 0 to many - 1, each once."""
    return is_several(value) and len(value) == many and first_bad_thing(many, value) < 0


def is_entry(knot, value):
    if knot.kind == Wood.FULL:
        return is_row_of(len(knot.children), value)
    return is_whole(value) and 0 <= value <= 1


def ways_from(behind, ways):
    """The ways as a tuple whose rows are tuples."""
    if not is_several(ways) or len(ways) != len(behind.places):
        raise BadWays(-1)
    found = []
    for place, number in enumerate(behind.places):
        if not is_entry(behind.wood.knots[number], ways[place]):
            raise BadWays(place)
        found.append(tuple(ways[place]) if is_several(ways[place]) else ways[place])
    return tuple(found)


def number_of_ways(behind, ways):
    """The number of good ways."""
    total = 0
    for number, entry in zip(behind.places, ways):
        total = total * entries_at(behind.wood, number) + (rank_of(entry) if is_several(entry) else entry)
    return total


def ways_with_number(behind, number):
    """The ways with a number from 0 to behind.many - 1."""
    backwards = []
    rest = number
    for place in reversed(behind.places):
        rest, rank = divmod(rest, entries_at(behind.wood, place))
        knot = behind.wood.knots[place]
        backwards.append(row_with_rank(len(knot.children), rank) if knot.kind == Wood.FULL else rank)
    return tuple(reversed(backwards))
