"""Webs and orders in the place of a thing."""

from math import factorial

from ordersbehind.checks import MOST_THINGS, lot_of, number_of_kind, thing_of
from ordersbehind.counts import count_orders
from ordersbehind.orders import Order
from ordersbehind.pairs import all_but, outside_and_one, pairs_moved, pairs_on
from ordersbehind.turns import check_part_of
from ordersbehind.webs import Web
from ordersbehind.wood import Wood


def size_grafted(size, guest_size):
    """The size of a graft. Raises BadNumber if it is too great."""
    return number_of_kind(size - 1 + guest_size, 1, MOST_THINGS, "size")


def pairs_grafted(one, thing, guest):
    """The ties or arrows of the graft of the guest at a thing of one; both are webs, or both are orders."""
    places = {other: [place] for place, other in enumerate(all_but(one.size, thing))}
    places[thing] = [one.size - 1 + other for other in range(guest.size)]
    found = pairs_moved(list(guest), one.size - 1)
    for first, second in one:
        found.extend([(low, high) for low in places[first] for high in places[second]])
    return found


def graft(web, thing, guest):
    """The web with the guest in the place of the thing."""
    thing_of(web.size, thing)
    return Web(size_grafted(web.size, guest.size), pairs_grafted(web, thing, guest))


def graft_order(order, thing, guest_order):
    """The order with the guest in the place of the thing."""
    thing_of(order.size, thing)
    return Order(size_grafted(order.size, guest_order.size), pairs_grafted(order, thing, guest_order))


def order_made_one(order, lot):
    """The order on the things outside the lot and on its least thing, which becomes the last one."""
    things = outside_and_one(order.size, lot)
    return Order(len(things), pairs_on(order.arrows, things))


def part_order(order, lot):
    """The order with a part of it made one thing, and the order on the part."""
    lot = lot_of(order.size, lot)
    check_part_of(order, lot)
    return order_made_one(order, lot), order.on(lot)


def merging(web, thing, guest):
    """The kind of the two knots that merge and how many children each of them has; "", 1 and 1 if none merge."""
    thing_of(web.size, thing)
    if web.size > 1 and guest.size > 1:
        knot = Wood(web).knots_over(thing)[0]
        whole = Wood(guest).knots[0]
        if knot.kind == whole.kind and knot.kind != Wood.FIRM:
            return knot.kind, len(knot.children), len(whole.children)
    return "", 1, 1


def merged(web, thing, guest):
    """The kind of the two knots that merge, an empty string if none do."""
    return merging(web, thing, guest)[0]


def graft_counts(web, thing, guest):
    """The number of orders behind the graft, and over and under by which it grows if two full knots merge."""
    number = count_orders(graft(web, thing, guest))
    kind, many, guests = merging(web, thing, guest)
    if kind != Wood.FULL:
        return number, 1, 1
    return number, factorial(many - 1 + guests), factorial(many) * factorial(guests)


def back_row(size, lot):
    """The things outside the lot, ascending, then those of the lot, ascending."""
    number_of_kind(size, 1, MOST_THINGS, "size")
    lot = lot_of(size, lot)
    return tuple([thing for thing in range(size) if thing not in lot]) + lot
