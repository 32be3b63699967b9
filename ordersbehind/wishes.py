"""Wishes: arrows that an order behind a web should have."""

from math import factorial

from ordersbehind.chains import chain, is_chain
from ordersbehind.checks import arrows_of, is_several, number_of_kind
from ordersbehind.demands import barred_place, closure_of, demands_of, order_demanded, ring_of_sides
from ordersbehind.errors import TooMany
from ordersbehind.forcing import check_tied
from ordersbehind.masks import masks_of_pairs, things_in
from ordersbehind.rowcounts import count_rows
from ordersbehind.standings import arrow_between, arrows_between, is_full_at, stand_of

MOST_CHILDREN = 12


def wishes_of(web, arrows):
    """The wishes, ascending. Raises BadPair, then NotTied."""
    wishes = arrows_of(web.size, arrows)
    for wish in wishes:
        check_tied(web, wish)
    return wishes


def held(behind, arrows, *, last=False):
    """The first or the last order by number that holds the wishes, None if they are barred."""
    return order_demanded(behind, wishes_of(behind.web, arrows), last)


def forced_ring(behind, arrows):
    """The chains of a forced ring, None if the wishes are not barred."""
    wishes = wishes_of(behind.web, arrows)
    demands = demands_of(behind, wishes)
    place = barred_place(demands)
    if place < 0:
        return None
    known = {stand_of(behind, wish): wish for wish in wishes}
    ring = ring_of_sides(demands[place])
    return tuple([chain(behind.web, known[(place, low, high)], arrow_between(behind, place, low, high))
                  for low, high in zip(ring, ring[1:] + ring[:1])])


def is_forced_ring(web, arrows, chains):
    """True if the value is a list or tuple of the chains of a forced ring of the wishes."""
    wishes = wishes_of(web, arrows)
    if not is_several(chains) or len(chains) < 2:
        return False
    if not all([is_chain(web, path) and (path[0][0], path[0][1]) in wishes for path in chains]):
        return False
    starts = [path[-1][0] for path in chains]
    ends = [path[-1][1] for path in chains]
    return ends == starts[1:] + starts[:1] and len(set(starts)) == len(starts)


def count_at(behind, place, aheads):
    """The number of entries of a knot that obey the aheads."""
    if max(aheads) == 0:
        return factorial(len(aheads))
    if is_full_at(behind, place) and len(aheads) > MOST_CHILDREN:
        raise TooMany("children")
    return count_rows(aheads)


def count_held(behind, arrows):
    """The number of orders behind the web that hold the wishes."""
    many = 1
    for place, aheads in enumerate(demands_of(behind, wishes_of(behind.web, arrows))):
        many = many * count_at(behind, place, aheads)
    return many


def settled_at(behind, place, aheads):
    """The arrows at a knot that every order has that obeys the aheads."""
    pairs = [(low, high) for high, mask in enumerate(closure_of(aheads)) for low in things_in(mask)]
    return [arrow for low, high in pairs for arrow in arrows_between(behind, place, low, high)]


def settled(behind, arrows):
    """The arrows that all orders have that hold the wishes, None if these are barred."""
    demands = demands_of(behind, wishes_of(behind.web, arrows))
    if barred_place(demands) >= 0:
        return None
    found = []
    for place, aheads in enumerate(demands):
        found.extend(settled_at(behind, place, aheads))
    return tuple(sorted(found))


def row_count(many, pairs):
    """The number of rows of 0 to many - 1 in which the first number of each pair stands ahead of the second one."""
    number_of_kind(many, 1, MOST_CHILDREN, "many")
    return count_rows(masks_of_pairs(many, [(high, low) for low, high in arrows_of(many, pairs)]))
