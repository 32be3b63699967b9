"""Several rows of the same things: where two of them cross, and what they have in common."""

from ordersbehind.checks import any_row_of, is_several, row_of
from ordersbehind.errors import BadRow
from ordersbehind.masks import all_of, things_in
from ordersbehind.orders import Order
from ordersbehind.plain import fits
from ordersbehind.ranks import places_in
from ordersbehind.webs import Web


def rows_of(rows):
    """One or more rows of the same things as a tuple of tuples."""
    if not is_several(rows) or len(rows) == 0:
        raise BadRow(-1)
    size = len(any_row_of(rows[0]))
    return tuple([row_of(size, row) for row in rows])


def two_rows_of(rows):
    """Exactly two rows as a tuple of tuples."""
    found = rows_of(rows)
    if len(found) != 2:
        raise BadRow(-1)
    return found


def behind_each(row):
    """For each thing the mask of the things behind it in the row."""
    masks = [0] * len(row)
    left = all_of(len(row))
    for thing in row:
        left = left & ~(1 << thing)
        masks[thing] = left
    return masks


def crossing_web(rows):
    """The web that ties two things if the two rows cross at them."""
    one, other = two_rows_of(rows)
    places = places_in(other)
    ahead = [(first, second) for place, first in enumerate(one) for second in one[place + 1:]]
    return Web(len(one), [(first, second) for first, second in ahead if places[second] < places[first]])


def common_part(rows):
    """The order in which a thing is below another one if it stands ahead of it in all of the rows."""
    rows = rows_of(rows)
    masks = behind_each(rows[0])
    for row in rows[1:]:
        masks = [mask & later for mask, later in zip(masks, behind_each(row))]
    return Order(len(masks), [(first, second) for first, mask in enumerate(masks) for second in things_in(mask)])


def is_drawing(web, rows):
    """True if the value is a list or tuple of two rows whose crossing web is the web."""
    try:
        crossing = crossing_web(rows)
    except BadRow:
        return False
    return crossing == web


def fits_both(web, row):
    """True if the row fits the web and its contrary."""
    return fits(web, row) and fits(~web, row)


def turned_rows(rows):
    one, other = two_rows_of(rows)
    return other, one


def backward_rows(rows):
    one, other = two_rows_of(rows)
    return one[::-1], other[::-1]


def contrary_rows(rows):
    one, other = two_rows_of(rows)
    return one, other[::-1]
