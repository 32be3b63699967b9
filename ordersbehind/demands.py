"""What some arrows demand of the orders behind a web.

The aheads of a knot that chooses tell for each of its sides, as a mask, the sides that have to stand
ahead of it in the knot's row, so that the order has all of the arrows.
"""

from ordersbehind.masks import has_thing, least_in, mask_of
from ordersbehind.rowcounts import ready_in
from ordersbehind.standings import count_sides, order_told, stand_of


def demands_of(behind, arrows):
    """The aheads of each knot that chooses; contrary arrows are allowed, and so is an arrow several times."""
    demands = [[0] * count_sides(behind, at) for at in range(len(behind.places))]
    for arrow in arrows:
        place, low, high = stand_of(behind, arrow)
        demands[place][high] = demands[place][high] | (1 << low)
    return demands


def clash_in(behind, arrows):
    """An arrow in whose class the contrary of an earlier one is, and that earlier one; None if there is none."""
    known = {}
    for arrow in arrows:
        place, low, high = stand_of(behind, arrow)
        if (place, high, low) in known:
            return arrow, known[(place, high, low)]
        known[(place, low, high)] = arrow
    return None


def row_demanded(aheads, last):
    """The least row that obeys the aheads, or the greatest if last is True, as far as it can be made."""
    row = []
    met = 0
    ready = ready_in(aheads, met)
    while ready:
        side = ready[-1] if last else ready[0]
        row.append(side)
        met = met | (1 << side)
        ready = ready_in(aheads, met)
    return tuple(row)


def is_barred(aheads):
    """True if no row obeys the aheads."""
    return len(row_demanded(aheads, False)) < len(aheads)


def barred_place(demands):
    """The first place whose aheads no row obeys, -1 if there is none."""
    for place, aheads in enumerate(demands):
        if is_barred(aheads):
            return place
    return -1


def order_demanded(behind, arrows, last):
    """The order with the least number, or the greatest if last is True, that has the arrows; None if there is none."""
    demands = demands_of(behind, arrows)
    if barred_place(demands) >= 0:
        return None
    return order_told(behind, [row_demanded(aheads, last) for aheads in demands])


def ring_of_sides(aheads):
    """Different sides each of which has to stand ahead of the next one, and the last one of the first."""
    met = row_demanded(aheads, False)
    # Each side that finds no place in the row has to stand behind another one that finds none.
    stuck = mask_of([side for side in range(len(aheads)) if side not in met])
    path = [least_in(stuck)]
    ahead = least_in(aheads[path[0]] & stuck)
    while ahead not in path:
        path.append(ahead)
        ahead = least_in(aheads[ahead] & stuck)
    return path[path.index(ahead):][::-1]


def closure_of(aheads):
    """The aheads with all that follow from them."""
    closed = list(aheads)
    for side in range(len(closed)):
        closed = [mask | closed[side] if has_thing(mask, side) else mask for mask in closed]
    return closed
