"""As many rows for another order with the same web, and rows on some of their things."""

from ordersbehind.checks import lot_of
from ordersbehind.crossings import common_part, rows_of
from ordersbehind.turns import turns


def row_gathered(row, lot):
    """The row with all things of the lot, in the contrary sequence, where the least of them stood.

    To an outside thing all things of a part stand as the least one does. So if the common part of several
    rows has the part, that of the gathered rows is the order turned at it.
    """
    inside = [thing for thing in row if thing in lot]
    at = row.index(lot[0])
    ahead = [thing for thing in row[:at] if thing not in lot]
    later = [thing for thing in row[at:] if thing not in lot]
    return tuple(ahead + inside[::-1] + later)


def rows_for(rows, other):
    """As many rows whose common part is the order other."""
    found = rows_of(rows)
    for lot in turns(common_part(found), other):
        found = tuple([row_gathered(row, lot) for row in found])
    return found


def row_on(row, lot):
    """The row of the lot's things alone, which are called 0, 1 and so on; the lot is ascending."""
    return tuple([lot.index(thing) for thing in row if thing in lot])


def rows_on(rows, lot):
    """The rows on the lot's things."""
    rows = rows_of(rows)
    lot = lot_of(len(rows[0]), lot)
    return tuple([row_on(row, lot) for row in rows])
