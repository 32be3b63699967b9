"""Plain ways that look at everything: all orders behind a small web, and rows that fit a web."""

from ordersbehind.checks import row_of
from ordersbehind.errors import TooMany
from ordersbehind.masks import has_thing, masks_of_pairs
from ordersbehind.orders import Order, first_gap
from ordersbehind.ranks import places_in

MOST_TIES = 12


def arrows_chosen(ties, choice):
    """One arrow for each tie: turned where the choice, as a mask of the ties, has its bit."""
    return [(pair[1], pair[0]) if has_thing(choice, place) else pair for place, pair in enumerate(ties)]


def all_behind(web):
    """All orders behind the web, ascending by their arrows, found by trying every choice."""
    if len(web.ties) > MOST_TIES:
        raise TooMany("ties")
    closed = []
    for choice in range(1 << len(web.ties)):
        arrows = arrows_chosen(web.ties, choice)
        if first_gap(masks_of_pairs(web.size, arrows)) is None:
            closed.append(sorted(arrows))
    return tuple([Order(web.size, arrows) for arrows in sorted(closed)])


def misfit_from(web, first, later):
    """The first two of the later things that make a misfit with the first thing, None if none do."""
    for place, second in enumerate(later):
        if has_thing(web.masks[first], second):
            for third in later[place + 1:]:
                if has_thing(web.masks[second], third) and not has_thing(web.masks[first], third):
                    return second, third
    return None


def misfit(web, row):
    """The first three things that keep the row from fitting the web, None if it fits."""
    row = row_of(web.size, row)
    for place, first in enumerate(row):
        found = misfit_from(web, first, row[place + 1:])
        if found is not None:
            return first, found[0], found[1]
    return None


def fits(web, row):
    return misfit(web, row) is None


def turned_by(web, row):
    """The order of the arrows along the row."""
    row = row_of(web.size, row)
    places = places_in(row)
    return Order(web.size, [(a, b) if places[a] < places[b] else (b, a) for a, b in web.ties])
