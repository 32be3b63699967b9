"""Levellings of an order: a level for each thing that no arrow goes down from."""

from ordersbehind.checks import is_several, is_whole, lot_of, number_of_kind
from ordersbehind.errors import BadLevels
from ordersbehind.masks import has_thing
from ordersbehind.rowcounts import check_few
from ordersbehind.turns import check_part_of

MOST_LEVELS = 12


def is_levelling(order, many, levels, *, strict=True):
    """True if the value is a list or tuple that is a levelling of the order in so many levels."""
    number_of_kind(many, 1, MOST_LEVELS, "many")
    if not is_several(levels) or len(levels) != order.size:
        return False
    if not all([is_whole(level) and 0 <= level < many for level in levels]):
        return False
    least = 1 if strict else 0
    return all([levels[second] - levels[first] >= least for first, second in order.arrows])


def thing_put_in(counts, below, thing):
    """The counts for each lot, a mask, that was reached so far or is reached by putting the thing into one.

    The thing is put in only where all things of below, a mask, are in the lot.
    """
    found = list(counts)
    for lot, count in enumerate(counts):
        if count > 0 and not has_thing(lot, thing) and below & ~lot == 0:
            found[lot | (1 << thing)] = found[lot | (1 << thing)] + count
    return found


def count_levellings(order, many, *, strict=True):
    """The number of levellings of the order in so many levels."""
    number_of_kind(many, 1, MOST_LEVELS, "many")
    check_few(order.size)
    upwards = sorted(list(range(order.size)), key=lambda thing: len(order.below(thing)))
    # The things of one level are put in one after another, in one sequence alone. Downwards, no thing of a
    # level is below another one: what is above was put in earlier, when that other one was already there.
    things = upwards[::-1] if strict else upwards
    counts = [1] + [0] * ((1 << order.size) - 1)
    for _ in range(many):
        for thing in things:
            counts = thing_put_in(counts, order.downs[thing], thing)
    return counts[-1]


def levels_of(order, levels):
    """The levels, a list or tuple of one integer from 0 on for each thing."""
    if not is_several(levels) or len(levels) != order.size:
        raise BadLevels(-1)
    for place, level in enumerate(levels):
        if not is_whole(level) or level < 0:
            raise BadLevels(place)
    return levels


def turned_levels(order, lot, levels):
    """The levels turned at a part of the order."""
    lot = lot_of(order.size, lot)
    levels = levels_of(order, levels)
    check_part_of(order, lot)
    known = sorted({levels[thing] for thing in lot})
    turned = {level: other for level, other in zip(known, known[::-1])}
    return tuple([turned[level] if thing in lot else level for thing, level in enumerate(levels)])
