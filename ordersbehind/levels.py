"""Levellings of an order: a level for each thing that no arrow goes down from."""

from ordersbehind.checks import is_several, is_whole, lot_of, number_of_kind
from ordersbehind.errors import BadLevels
from ordersbehind.masks import all_of, mask_of, things_in
from ordersbehind.rowcounts import check_few, pieces_of
from ordersbehind.turns import check_part_of

MOST_LEVELS = 12
FEW_THINGS = 4


def is_levelling(order, many, levels, *, strict=True):
    """True if the value is a list or tuple that is a levelling of the order in so many levels."""
    number_of_kind(many, 1, MOST_LEVELS, "many")
    if not is_several(levels) or len(levels) != order.size:
        return False
    if not all([is_whole(level) and 0 <= level < many for level in levels]):
        return False
    least = 1 if strict else 0
    return all([levels[second] - levels[first] >= least for first, second in order.arrows])


def in_turn(order, piece, strict):
    """The things of a piece, a mask, in the sequence in which they are put in at each level.

    So the things of one level are put in in one sequence alone. Downwards, no thing of a level is below another
    one: what is above was put in earlier, when that other one was already there.
    """
    upwards = sorted(things_in(piece), key=lambda thing: len(things_in(order.downs[thing])))
    return upwards[::-1] if strict else upwards


def thing_put_in(counts, below, both):
    """The counts for each lot, a mask, that was reached so far or is reached by putting a thing into one.

    The thing is put in only where all things of below, a mask, are in the lot; both is below with the thing.
    """
    found = dict(counts)
    for lot, count in counts.items():
        if lot & both == below:
            found[lot | both] = found.get(lot | both, 0) + count
    return found


def count_in_piece(order, many, things):
    """The number of levellings of the piece of the order that has these things, which are put in in turn."""
    needs = [(order.downs[thing], order.downs[thing] | (1 << thing)) for thing in things]
    counts = {0: 1}
    for _ in range(many):
        for below, both in needs:
            counts = thing_put_in(counts, below, both)
    return counts.get(mask_of(things), 0)


def count_rising(order, many, strict):
    """The number of levellings of an order that has arrows, in at least two levels."""
    # Few things are counted faster as a whole than they are put into pieces.
    pieces = pieces_of(order.downs) if order.size > FEW_THINGS else [all_of(order.size)]
    total = 1
    for piece in pieces:
        total = total * count_in_piece(order, many, in_turn(order, piece, strict))
    return total


def count_levellings(order, many, *, strict=True):
    """The number of levellings of the order in so many levels."""
    number_of_kind(many, 1, MOST_LEVELS, "many")
    check_few(order.size)
    if order.arrows and many > 1:
        return count_rising(order, many, strict)
    if order.arrows:
        return 0 if strict else 1
    total = 1
    for _ in range(order.size):
        total = total * many
    return total


def levels_of(order, levels):
    """The levels, a list or tuple of one integer from 0 on for each thing."""
    if not is_several(levels) or len(levels) != order.size:
        raise BadLevels(-1)
    for place, level in enumerate(levels):
        if not is_whole(level) or level < 0:
            raise BadLevels(place)
    return levels


def turned_levels(order, lot, levels):
    """The levels turned at a part of the order."""
    lot = lot_of(order.size, lot)
    levels = levels_of(order, levels)
    check_part_of(order, lot)
    known = sorted({levels[thing] for thing in lot})
    turned = {level: other for level, other in zip(known, known[::-1])}
    return tuple([turned[level] if thing in lot else level for thing, level in enumerate(levels)])
