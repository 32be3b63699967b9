"""Webs and orders that are alike, and the renamings from one to the other."""

from ordersbehind.drawings import Drawings
from ordersbehind.ranks import places_in
from ordersbehind.readings import order_reading, web_reading


def renaming_between(one, other):
    """A renaming from what the one reading is read out of to that of the other, None if their names differ."""
    if one.name != other.name:
        return None
    places = places_in(one.things)
    return tuple([other.things[place] for place in places])


def alike(one, other):
    """True if the two webs are alike."""
    return renaming(one, other) is not None


def renaming(one, other):
    """A renaming from the one web to the other, None if they are not alike."""
    return renaming_between(web_reading(one), web_reading(other))


def count_renamings(web):
    """The number of renamings from the web to itself."""
    return web_reading(web).renamings


def orders_alike(one, other):
    """True if the two orders are alike."""
    return order_renaming(one, other) is not None


def order_renaming(one, other):
    """A renaming from the one order to the other, None if they are not alike."""
    return renaming_between(order_reading(one), order_reading(other))


def count_order_renamings(order):
    """The number of renamings from the order to itself."""
    return order_reading(order).renamings


def count_permutations(web):
    """The number of tuples that the drawings of the web spell."""
    return Drawings(web).many // web_reading(web).renamings
