"""One arrow more or less in an order."""

from ordersbehind.checks import thing_of
from ordersbehind.errors import BadThing, NotArrow
from ordersbehind.masks import has_thing
from ordersbehind.orders import Order


def check_unjoined(order, first, second):
    """Raises BadThing if these are not two different things that no arrow joins."""
    thing_of(order.size, first, "first")
    thing_of(order.size, second, "second")
    if first == second or has_thing(order.ups[first] | order.downs[first], second):
        raise BadThing("second")


def check_arrow(order, first, second):
    """Raises BadThing or NotArrow if this is no arrow of the order."""
    if not order.has(first, second):
        raise NotArrow(first, second)


def may_add(order, first, second):
    """True if the arrows and (first, second) are an order."""
    check_unjoined(order, first, second)
    return order.downs[first] & ~order.downs[second] == 0 and order.ups[second] & ~order.ups[first] == 0


def added(order, first, second):
    """The order with the arrow (first, second)."""
    check_unjoined(order, first, second)
    return Order(order.size, list(order.arrows) + [(first, second)])


def may_drop(order, first, second):
    """True if the arrows without (first, second) are an order."""
    check_arrow(order, first, second)
    return order.ups[first] & order.downs[second] == 0


def dropped(order, first, second):
    """The order without the arrow (first, second)."""
    check_arrow(order, first, second)
    return Order(order.size, [arrow for arrow in order.arrows if arrow != (first, second)])
