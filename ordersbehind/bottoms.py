"""Which lots can be bottoms or tops of an order behind a web, and in how many orders they are."""

from ordersbehind.chains import chain
from ordersbehind.checks import lot_of
from ordersbehind.demands import clash_in, order_demanded
from ordersbehind.masks import things_in
from ordersbehind.standings import count_sides, knot_at


def arrows_out(web, lot):
    """All arrows of the web out of things of the lot."""
    return [(thing, other) for thing in lot for other in things_in(web.masks[thing])]


def arrows_wanted(web, low, high):
    """All arrows of the web out of things of low and into things of high."""
    return arrows_out(web, low) + [(other, thing) for thing, other in arrows_out(web, high)]


def order_between(behind, low, high):
    """The first order by number in which low are bottoms and high are tops, both good lots; None if there is none."""
    return order_demanded(behind, arrows_wanted(behind.web, low, high), False)


def bar_between(behind, low, high):
    """A chain from a wanted arrow to the contrary of one, None if there is none; the lots are good."""
    clash = clash_in(behind, arrows_wanted(behind.web, low, high))
    if clash is None:
        return None
    arrow, (first, second) = clash
    return chain(behind.web, arrow, (second, first))


def share_at(behind, place, low, high):
    """By what the things of low and of high divide the number of orders at a knot that chooses."""
    lot = knot_at(behind, place).lot
    many = count_sides(behind, place)
    met = len([ends for ends in (low, high) if any([thing in lot for thing in ends])])
    # Of two sides, those of a firm knot too, the lowest one tells the highest one: 2 * (2 - 1) is 2.
    factors = (1, many, many * (many - 1))
    return factors[met]


def count_between_ends(behind, low, high):
    """The number of orders in which low are bottoms and high are tops, both good lots."""
    if bar_between(behind, low, high) is not None:
        return 0
    many = behind.many
    for place in range(len(behind.places)):
        many = many // share_at(behind, place, low, high)
    return many


def bottom_order(behind, lot):
    """The first order by number in which all things of the lot are bottoms, None if there is none."""
    return order_between(behind, lot_of(behind.web.size, lot, empty=True), ())


def bottom_bar(behind, lot):
    """A chain from an arrow into a thing of the lot to an arrow out of one, None if there is such an order."""
    path = bar_between(behind, lot_of(behind.web.size, lot, empty=True), ())
    # The path leads from an arrow out of the lot to one into it, and a chain may be gone through backwards.
    return None if path is None else path[::-1]


def count_bottoms(behind, lot):
    """The number of orders in which all things of the lot are bottoms."""
    return count_between_ends(behind, lot_of(behind.web.size, lot, empty=True), ())


def two_lots_of(behind, low, high):
    """The two lots, ascending, each of which may be empty."""
    return lot_of(behind.web.size, low, empty=True), lot_of(behind.web.size, high, empty=True)


def ends_order(behind, low, high):
    """The first order by number in which low are bottoms and high are tops, None if there is none."""
    low, high = two_lots_of(behind, low, high)
    return order_between(behind, low, high)


def ends_bar(behind, low, high):
    """A chain from an arrow out of low or into high to the contrary of such an arrow, None if there is an order."""
    low, high = two_lots_of(behind, low, high)
    return bar_between(behind, low, high)


def count_ends(behind, low, high):
    """The number of orders in which low are bottoms and high are tops."""
    low, high = two_lots_of(behind, low, high)
    return count_between_ends(behind, low, high)


def bottoms_in_all(behind):
    """The number of pairs of an order behind the web and a bottom of it."""
    return sum([count_between_ends(behind, (thing,), ()) for thing in range(behind.web.size)])
