"""What two rows spell, and the names of webs and orders: those that are alike have the same name."""

from ordersbehind.checks import any_row_of
from ordersbehind.crossings import two_rows_of
from ordersbehind.ranks import places_in
from ordersbehind.readings import order_reading, web_reading


def spelled(rows):
    """For each thing of the first row its place in the second one."""
    one, other = two_rows_of(rows)
    places = places_in(other)
    return tuple([places[thing] for thing in one])


def rows_spelling(places):
    """The row 0, 1 and so on and the row that has each thing at its place."""
    places = any_row_of(places)
    return tuple(range(len(places))), places_in(places)


def web_name(web):
    return web_reading(web).name


def order_name(order):
    return order_reading(order).name
