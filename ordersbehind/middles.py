"""Orders between others, the middle of three, and in how many orders a part stays one."""

from ordersbehind.errors import NoMiddle, TooMany
from ordersbehind.masks import has_thing, things_in
from ordersbehind.orders import Order, check_behind
from ordersbehind.parts import part_of
from ordersbehind.rowcounts import count_rows
from ordersbehind.standings import rows_told
from ordersbehind.unions import side_by_side
from ordersbehind.wood import Wood

MOST_CHILDREN = 12


def is_between(behind, one, order, other):
    """True if the order has all arrows that the two others share."""
    check_behind(one, behind.web)
    check_behind(order, behind.web)
    check_behind(other, behind.web)
    return all([mask & theirs & ~mine == 0 for mask, theirs, mine in zip(one.ups, other.ups, order.ups)])


def aheads_shared(row, other):
    """For each side, as a mask, the sides that stand ahead of it in both rows."""
    aheads = [0] * len(row)
    for place, side in enumerate(row):
        for later in row[place + 1:]:
            if other.index(side) < other.index(later):
                aheads[later] = aheads[later] | (1 << side)
    return aheads


def count_between(behind, one, other):
    """The number of orders behind the web between the two."""
    rows = rows_told(behind, one)
    others = rows_told(behind, other)
    if any([knot.kind == Wood.FULL and len(knot.children) > MOST_CHILDREN for knot in behind.wood.knots]):
        raise TooMany("children")
    many = 1
    for row, theirs in zip(rows, others):
        many = many * count_rows(aheads_shared(row, theirs))
    return many


def ring_of_three(ups):
    """Three things each of which is below the next one, and the last one below the first; None if there are none."""
    for first, above in enumerate(ups):
        for second in things_in(above):
            for third in things_in(ups[second]):
                if has_thing(ups[third], first):
                    return first, second, third
    return None


def middle(behind, one, two, three):
    """The order behind the web that is between each two of the three."""
    check_behind(one, behind.web)
    check_behind(two, behind.web)
    check_behind(three, behind.web)
    ups = [a & b | a & c | b & c for a, b, c in zip(one.ups, two.ups, three.ups)]
    ring = ring_of_three(ups)
    if ring is not None:
        raise NoMiddle(ring)
    return Order(behind.web.size, [(first, second) for first, above in enumerate(ups) for second in things_in(above)])


def share_as_part(behind, lot):
    """The lot is a part of this share, as a pair, of the orders behind the web."""
    return side_by_side(behind.wood, part_of(behind.web, lot), (Wood.FULL,))
