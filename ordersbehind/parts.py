"""Parts: lots that each outside thing is tied to as a whole or not at all."""

from ordersbehind.checks import lot_of
from ordersbehind.errors import NotPart, TooMany
from ordersbehind.masks import all_of, least_in, mask_of, things_in

MOST_LISTED = 12


def splitters(masks, lot):
    """The mask of the things outside the lot, a mask, that are tied to some but not all of its things."""
    some = 0
    every = all_of(len(masks))
    for thing in things_in(lot):
        some = some | masks[thing]
        every = every & masks[thing]
    return some & ~every & ~lot


def smallest_part(masks, within, lot):
    """The smallest part that contains the lot, if within is a part that contains it; all as masks."""
    part = 0
    some = 0
    every = within
    coming = lot
    while coming:
        for thing in things_in(coming):
            some = some | masks[thing]
            every = every & masks[thing]
        part = part | coming
        coming = some & ~every & within & ~part
    return part


def splitter(web, lot):
    """The least thing that keeps the lot from being a part, None if it is a part."""
    found = splitters(web.masks, mask_of(lot_of(web.size, lot)))
    return least_in(found) if found else None


def is_part(web, lot):
    return splitter(web, lot) is None


def part_of(web, lot):
    """The part, ascending. Raises NotPart if the lot is none."""
    lot = lot_of(web.size, lot)
    thing = splitter(web, lot)
    if thing is not None:
        raise NotPart(thing)
    return lot


def part_with(web, lot):
    """The smallest part that contains the lot, ascending."""
    return things_in(smallest_part(web.masks, all_of(web.size), mask_of(lot_of(web.size, lot))))


def parts(web):
    """All parts, ascending."""
    if web.size > MOST_LISTED:
        raise TooMany("things")
    lots = range(1, 1 << web.size)
    return tuple(sorted([things_in(lot) for lot in lots if splitters(web.masks, lot) == 0]))


def lap(one, other):
    """True if the lots share a thing and each has one that the other does not have."""
    shared = [thing for thing in one if thing in other]
    return 0 < len(shared) < min(len(one), len(other))
