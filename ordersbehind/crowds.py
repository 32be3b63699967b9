"""Crowds: greatest lots of things that are all tied to one another. Bare fours."""

from ordersbehind.checks import first_bad_thing, is_several, lot_of
from ordersbehind.errors import TooMany
from ordersbehind.masks import all_of, has_thing, mask_of, things_in

MOST_LISTED = 500


def near_all(masks, lot):
    """The mask of the things that are tied to all things of the lot, a mask that has one."""
    near = all_of(len(masks))
    for thing in things_in(lot):
        near = near & masks[thing]
    return near


def crowds_with(masks, lots, thing):
    """The crowds, as masks, of all things up to this one, if lots are those of the things ahead of it."""
    found = {}
    for lot in lots:
        if lot & ~masks[thing]:
            found[lot] = True
        more = lot & masks[thing] | (1 << thing)
        if near_all(masks, more) & all_of(thing) == 0:
            found[more] = True
    return list(found)


def crowds(web):
    """All crowds, ascending."""
    lots = [0]
    for thing in range(web.size):
        lots = crowds_with(web.masks, lots, thing)
        # Each crowd of the things so far lies in one of the web that has no other of these things.
        if len(lots) > MOST_LISTED:
            raise TooMany("crowds")
    return tuple(sorted([things_in(lot) for lot in lots]))


def is_crowd_mask(web, lot):
    """True if the lot, a mask that has a thing, is a crowd."""
    inside = all([lot & ~web.masks[thing] == 1 << thing for thing in things_in(lot)])
    return inside and near_all(web.masks, lot) == 0


def is_crowd(web, lot):
    return is_crowd_mask(web, mask_of(lot_of(web.size, lot)))


def untied_from(web, thing):
    """The mask of all other things that are not tied to the thing."""
    return all_of(web.size) & ~web.masks[thing] & ~(1 << thing)


def bare_four(web):
    """The least bare four, None if there is none."""
    for a, near in enumerate(web.masks):
        for b in things_in(near):
            for c in things_in(web.masks[b] & untied_from(web, a)):
                last = near & web.masks[c] & untied_from(web, b)
                if last:
                    return a, b, c, things_in(last)[0]
    return None


def is_bare_four(web, things):
    """True if the value is a list or tuple that is a bare four, going round."""
    if not is_several(things) or len(things) != 4 or first_bad_thing(web.size, things) >= 0:
        return False
    a, b, c, d = things
    tied = [has_thing(web.masks[one], other) for one, other in ((a, b), (b, c), (c, d), (a, d), (a, c), (b, d))]
    return tied == [True, True, True, True, False, False]
