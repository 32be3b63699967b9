"""How many orders are behind a web, by its wood alone."""

from math import factorial

from ordersbehind.classes import is_odd
from ordersbehind.pairs import outside_and_one, pairs_on
from ordersbehind.parts import part_of
from ordersbehind.unions import side_by_side
from ordersbehind.webs import Web
from ordersbehind.wood import Wood, quotient


def count_choices(wood, knot):
    """The number of choices at the knot; 0 if its colour is odd."""
    if knot.kind == Wood.FREE:
        return 1
    if knot.kind == Wood.FULL:
        return factorial(len(knot.children))
    # All ties of the quotient have one colour, which is odd exactly if that of the knot is.
    web = quotient(wood, knot.number)
    return 0 if is_odd(web, web.ties[0]) else 2


def count_orders(web):
    """The number of orders behind the web."""
    wood = Wood(web)
    many = 1
    for knot in wood.knots:
        many = many * count_choices(wood, knot)
    return many


def has_orders(web):
    return count_orders(web) > 0


def one_thing_made(web, lot):
    """The web with a part of it made one thing."""
    things = outside_and_one(web.size, lot)
    return Web(len(things), pairs_on(web.ties, things))


def made_one(web, lot):
    """The web with the lot made one thing, the last one."""
    return one_thing_made(web, part_of(web, lot))


def share_of_parts(web, lot):
    """The numbers for the web on the lot and for the web with the lot made one thing, then over and under."""
    lot = part_of(web, lot)
    under, over = side_by_side(Wood(web), lot, (Wood.FULL,))
    return count_orders(web.on(lot)), count_orders(one_thing_made(web, lot)), over, under
