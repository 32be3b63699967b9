"""Least barred lots: what keeps a web from having orders."""

from ordersbehind.behind import Behind
from ordersbehind.counts import has_orders
from ordersbehind.errors import NotBar, TooMany
from ordersbehind.masks import all_of, things_in
from ordersbehind.rings import SHORTEST_RING, odd_ring

MOST_LISTED = 9


def is_barred_lot(web, lot):
    """True if no order is behind the web on the lot, a mask."""
    things = things_in(lot)
    return len(things) >= SHORTEST_RING and not has_orders(web.on(things))


def bar(web):
    """A least barred lot, None if an order is behind the web."""
    lot = all_of(web.size)
    if not is_barred_lot(web, lot):
        return None
    for thing in reversed(range(web.size)):
        rest = lot & ~(1 << thing)
        if is_barred_lot(web, rest):
            lot = rest
    return things_in(lot)


def is_least(web):
    """True if the lot of all things of the web is a least barred lot."""
    lot = all_of(web.size)
    if not is_barred_lot(web, lot):
        return False
    return not any([is_barred_lot(web, lot & ~(1 << thing)) for thing in range(web.size)])


def is_bar(web, lot):
    """True if the lot is a least barred lot."""
    return is_least(web.on(lot))


def bar_papers(web, lot):
    """An odd ring of the web on a least barred lot, and orders behind this web without each of its things."""
    inside = web.on(lot)
    if not is_least(inside):
        raise NotBar()
    orders = [Behind(inside.without(thing)).at(0) for thing in range(inside.size)]
    return odd_ring(inside), tuple(orders)


def lots_by_size(size):
    """All lots, as masks, those of fewer things first."""
    return sorted(list(range(1, 1 << size)), key=lambda lot: len(things_in(lot)))


def bars_of(web):
    """All least barred lots, ascending."""
    if web.size > MOST_LISTED:
        raise TooMany("things")
    if has_orders(web):
        return ()
    found = []
    for lot in lots_by_size(web.size):
        # A barred lot is a least one if no least barred lot of fewer things lies in it.
        if not any([less & ~lot == 0 for less in found]) and is_barred_lot(web, lot):
            found.append(lot)
    return tuple(sorted([things_in(lot) for lot in found]))
