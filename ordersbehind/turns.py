"""Turns of orders at their parts. Two orders have one web exactly if turns lead from one to the other."""

from ordersbehind.behind import Behind
from ordersbehind.checks import is_several, lot_of
from ordersbehind.errors import BadLot, NotPart, OtherWeb
from ordersbehind.masks import has_thing, mask_of
from ordersbehind.orders import Order, unlike_pair, web_of
from ordersbehind.standings import lot_of_sides, rows_told


def is_crossing(order, lot, thing):
    """True if the thing is neither alike below, nor alike above, nor beside all things of the lot, a mask."""
    above = order.ups[thing] & lot
    below = order.downs[thing] & lot
    return above != lot and below != lot and (above | below) != 0


def crossing_thing(order, lot):
    """The least thing that keeps the lot from being a part of the order, None if it is one."""
    inside = mask_of(lot_of(order.size, lot))
    for thing in range(order.size):
        if not has_thing(inside, thing) and is_crossing(order, inside, thing):
            return thing
    return None


def is_part_of(order, lot):
    return crossing_thing(order, lot) is None


def check_part_of(order, lot):
    """Raises NotPart if the lot is no part of the order."""
    thing = crossing_thing(order, lot)
    if thing is not None:
        raise NotPart(thing)


def turned_at(order, lot):
    """The order turned at a part of it."""
    return Order(order.size, [(b, a) if a in lot and b in lot else (a, b) for a, b in order.arrows])


def turn(order, lot):
    lot = lot_of(order.size, lot)
    check_part_of(order, lot)
    return turned_at(order, lot)


def same_web(one, other):
    """True if the two orders have the same web."""
    return unlike_pair(one, web_of(other)) is None


def stretches_turned(row, goal):
    """The stretches of the row that, each written backwards in its turn, lead to the goal; fewer than entries."""
    now = list(row)
    found = []
    for place, side in enumerate(goal):
        end = now.index(side) + 1
        if end > place + 1:
            stretch = now[place:end]
            found.append(stretch)
            now[place:end] = stretch[::-1]
    return found


def turns(one, other):
    """Parts at which the order one is turned, one after another, to become the other."""
    pair = unlike_pair(one, web_of(other))
    if pair is not None:
        first, second = pair
        raise OtherWeb(first, second)
    behind = Behind(web_of(one))
    now = one
    found = []
    # A turn changes nothing at the larger knots around its lot, so what is set there stays.
    for place, goal in enumerate(rows_told(behind, other)):
        stretches = stretches_turned(rows_told(behind, now)[place], goal)
        lots = [lot_of_sides(behind, place, stretch) for stretch in stretches]
        now = turned_along(now, lots)
        found.extend(lots)
    return tuple(found)


def turned_along(order, lots):
    """The order turned at the lots, one after another."""
    if not is_several(lots):
        raise BadLot(-1)
    now = order
    for lot in lots:
        now = turn(now, lot)
    return now
