"""Webs of spans: the orders behind their contraries, and how these put crowds and spans along a line."""

from ordersbehind.behind import Behind
from ordersbehind.crowds import bare_four
from ordersbehind.errors import NoOrders, NoSpans
from ordersbehind.masks import things_in


def free_part_of(web):
    """The orders behind the contrary of a web of spans. Raises NoSpans for other webs."""
    four = bare_four(web)
    if four is not None:
        raise NoSpans(four, ())
    try:
        return Behind(~web)
    except NoOrders as e:
        raise NoSpans((), e.ring) from e


def count_below(order, lot):
    """The number of things that are below some thing of the lot."""
    below = 0
    for thing in lot:
        below = below | order.downs[thing]
    return len(things_in(below))


def crowds_along(order, lots):
    """The row that an order behind the contrary of a web of spans makes of all crowds of the web."""
    # Of two crowds the later one has below its things all that is below the earlier one, and a thing of this.
    return tuple(sorted(lots, key=lambda lot: count_below(order, lot)))


def spans_along(size, row):
    """For each thing the places of the first and the last lot of the row that have it."""
    spans = []
    for thing in range(size):
        places = [place for place, lot in enumerate(row) if thing in lot]
        spans.append((places[0], places[-1]))
    return tuple(spans)
