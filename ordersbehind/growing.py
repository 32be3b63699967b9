"""Webs with one thing more, and the orders behind them to which an order behind the old web goes on."""

from ordersbehind.behind import Behind
from ordersbehind.chains import chain, is_chain
from ordersbehind.checks import MOST_THINGS, first_bad_thing, is_several, lot_of, number_of_kind
from ordersbehind.classes import colours
from ordersbehind.counts import has_orders
from ordersbehind.demands import clash_in
from ordersbehind.errors import BadLot, NoOrders, NotBehind
from ordersbehind.masks import all_of, least_unlike, mask_of, things_in
from ordersbehind.orders import Order, tied_in
from ordersbehind.rings import odd_ring
from ordersbehind.webs import Web


def with_thing(web, near):
    """The web with a new thing that is tied to the things of near."""
    near = lot_of(web.size, near, empty=True)
    return Web(web.size + 1, list(web.ties) + [(thing, web.size) for thing in near])


def check_for(order, web):
    """Raises NotBehind if the order is not behind the web without its new thing."""
    old = [mask & all_of(web.size - 1) for mask in web.masks[:-1]]
    pair = least_unlike(tied_in(order), old)
    if pair is not None:
        first, second = pair
        raise NotBehind(first, second)


def check_orders(web):
    """Raises NoOrders if no order is behind the web."""
    if not has_orders(web):
        raise NoOrders(odd_ring(web))


def is_parting(order, low, high):
    """True if two masks, together the things tied to a new one, are a parting."""
    lows = [order.downs[thing] & ~low == 0 for thing in things_in(low)]
    highs = [order.ups[thing] & ~high == 0 and low & ~order.downs[thing] == 0 for thing in things_in(high)]
    return all(lows) and all(highs)


def sides(order, near):
    """All partings of the lot in the order, ascending."""
    near = mask_of(lot_of(order.size, near, empty=True))
    below = [(thing, len(things_in(order.downs[thing] & near))) for thing in things_in(near)]
    found = []
    for many in range(len(below) + 1):
        # Of so many low things each has fewer things of the lot below it, and each high thing has them all.
        low = mask_of([thing for thing, lower in below if lower < many])
        if len(things_in(low)) == many and is_parting(order, low, near & ~low):
            found.append((things_in(low), things_in(near & ~low)))
    return tuple(sorted(found))


def order_by_sides(order, low, high):
    """The order with a new thing above all things of low and below all things of high."""
    lows = lot_of(order.size, low, empty=True)
    highs = lot_of(order.size, high, empty=True)
    for place, thing in enumerate(high):
        if thing in lows:
            raise BadLot(place)
    arrows = [(thing, order.size) for thing in lows] + [(order.size, thing) for thing in highs]
    return Order(order.size + 1, list(order.arrows) + arrows)


def goes_on(order, web):
    """The orders behind the web to which the order goes on, ascending by their arrows."""
    check_for(order, web)
    check_orders(web)
    found = [order_by_sides(order, low, high) for low, high in sides(order, web.near(order.size))]
    return tuple(sorted(found, key=lambda one: one.arrows))


def count_going(order, web):
    """The number of orders behind the web to which the order goes on."""
    check_for(order, web)
    check_orders(web)
    return len(sides(order, web.near(order.size)))


def stuck(order, web):
    """A stuck pair, None if the order goes on to some order behind the web."""
    check_for(order, web)
    clash = clash_in(Behind(web), order.arrows)
    if clash is None:
        return None
    arrow, (first, second) = clash
    return arrow, chain(web, arrow, (second, first))


def is_stuck_pair(order, web, one, arrows):
    """True if the two values are a stuck pair."""
    check_for(order, web)
    if one not in order or not is_chain(web, arrows):
        return False
    first, second = arrows[-1]
    return list(one) == list(arrows[0]) and (second, first) in order


def joined_classes(web):
    """For each colour of the web the names of the old colours that it contains."""
    number_of_kind(web.size, 2, MOST_THINGS, "size")
    whole = colours(web)
    places = {tie: place for place, ties in enumerate(whole) for tie in ties}
    joined = [[] for _ in whole]
    for ties in colours(web.without(web.size - 1)):
        joined[places[ties[0]]].append(ties[0])
    return tuple([tuple(names) for names in joined])


def nears_told(nears):
    """The lots, each of things less than its index, as they were passed."""
    if not is_several(nears) or len(nears) < 1 or len(nears) > MOST_THINGS:
        raise BadLot(-1)
    for place, near in enumerate(nears):
        if not is_several(near) or first_bad_thing(place, near) >= 0:
            raise BadLot(place)
    return nears


def first_without_orders(web):
    """The least thing with which the things up to it have no order behind their web, -1 if there is none."""
    if has_orders(web):
        return -1
    # The web on the things up to low has orders behind it, the one on those up to high has none.
    low = 0
    high = web.size - 1
    while high - low > 1:
        between = (low + high) // 2
        if has_orders(web.on(tuple(range(between + 1)))):
            low = between
        else:
            high = between
    return high


def grown(nears):
    """The web whose things are put in one by one, and the first of them from which on it has no orders."""
    nears = nears_told(nears)
    web = Web(len(nears), [(other, thing) for thing, near in enumerate(nears) for other in near])
    return web, first_without_orders(web)
