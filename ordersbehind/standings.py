"""How the arrows of a web stand at the knots that choose.

A full knot has its children as sides. A firm knot is told as if it had two sides: its entry 0 is the
row (0, 1) of them and its entry 1 the row (1, 0). So every arrow leads from one side of a knot to
another one, the arrows of one class are those that lead alike, and an order behind the web is one row
of sides for each knot that chooses. A place is an index in the attribute places of the Behind.
"""

from ordersbehind.checks import is_several
from ordersbehind.wood import Wood


def knot_at(behind, place):
    return behind.wood.knots[behind.places[place]]


def is_full_at(behind, place):
    return knot_at(behind, place).kind == Wood.FULL


def count_sides(behind, place):
    return len(knot_at(behind, place).children) if is_full_at(behind, place) else 2


def stand_of(behind, arrow):
    """The place of an arrow of the web, the side from which it leads and the side to which it leads."""
    first, second = arrow
    knot = behind.wood.parting(first, second)
    place = behind.places.index(knot.number)
    if knot.kind == Wood.FULL:
        return place, knot.child(first), knot.child(second)
    return (place, 0, 1) if (first, second) in behind.leads[place] else (place, 1, 0)


def rows_told(behind, order):
    """The row of sides, from the lowest to the highest, at each knot that chooses, a list. Raises NotBehind."""
    return [tuple(entry) if is_several(entry) else (entry, 1 - entry) for entry in behind.ways_of(order)]


def order_told(behind, rows):
    """The order behind the web that has these rows of sides."""
    return behind.order_of([row if is_full_at(behind, place) else row[0] for place, row in enumerate(rows)])


def arrows_between(behind, place, low, high):
    """The class of the arrows that lead from the side low to the side high."""
    if is_full_at(behind, place):
        children = knot_at(behind, place).children
        return [(first, second) for first in children[low] for second in children[high]]
    lead = behind.leads[place]
    return list(lead) if low == 0 else [(second, first) for first, second in lead]


def arrow_between(behind, place, low, high):
    """The arrow of the colour's least tie that leads from the side low to the side high."""
    if is_full_at(behind, place):
        leaders = knot_at(behind, place).leaders()
        return leaders[low], leaders[high]
    # A lead is ascending, and the least tie of the knot is the first of its arrows.
    first, second = behind.leads[place][0]
    return (first, second) if low == 0 else (second, first)


def name_between(behind, place, one, other):
    """The name of the colour of the ties between two sides."""
    arrow = arrow_between(behind, place, one, other)
    return min(arrow), max(arrow)


def name_of(behind, pair):
    """The name of the colour of a tie or an arrow of the web."""
    place, one, other = stand_of(behind, pair)
    return name_between(behind, place, one, other)


def lot_of_sides(behind, place, sides):
    """The things of some sides of a full knot, or of both sides of a firm one, ascending."""
    knot = knot_at(behind, place)
    if is_full_at(behind, place):
        return tuple(sorted([thing for side in sides for thing in knot.children[side]]))
    return knot.lot


def pairs_turned(row, other):
    """The pairs of sides that stand one way round in the row and the other way round in the other row."""
    return [(one, two) for place, one in enumerate(row) for two in row[place + 1:]
            if other.index(two) < other.index(one)]
