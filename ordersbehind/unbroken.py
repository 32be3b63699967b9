"""Lots that are unbroken in rows, and what they tell of the parts of a web of two rows."""

from ordersbehind.checks import any_row_of, lot_of
from ordersbehind.colourwood import masks_lap
from ordersbehind.crossings import rows_of, two_rows_of
from ordersbehind.masks import mask_of, things_in
from ordersbehind.parts import is_part
from ordersbehind.ranks import places_in
from ordersbehind.unions import side_by_side
from ordersbehind.wood import Wood, in_sequence


def is_unbroken(row, lot):
    """True if the things of the lot stand one behind the other in the row."""
    row = any_row_of(row)
    lot = lot_of(len(row), lot)
    places = [place for place, thing in enumerate(row) if thing in lot]
    return places[-1] - places[0] + 1 == len(lot)


def lots_from(things, rows_of_places):
    """The lots of the first one, two and so on of the things that are unbroken in rows, told by places."""
    firsts = [places[things[0]] for places in rows_of_places]
    lasts = list(firsts)
    found = []
    for many, thing in enumerate(things, start=1):
        firsts = [min(first, places[thing]) for first, places in zip(firsts, rows_of_places)]
        lasts = [max(last, places[thing]) for last, places in zip(lasts, rows_of_places)]
        if all([last - first + 1 == many for first, last in zip(firsts, lasts)]):
            found.append(tuple(sorted(things[:many])))
    return found


def unbroken_lots(rows):
    """All lots that are unbroken in each of the rows."""
    rows = rows_of(rows)
    rows_of_places = [places_in(row) for row in rows]
    found = []
    for start in range(len(rows[0])):
        found.extend(lots_from(rows[0][start:], rows_of_places))
    return tuple(sorted(found))


def strong_by_rows(rows):
    """The strong parts of the crossing web of two rows, in the sequence of the method lots of a Wood."""
    lots = [mask_of(lot) for lot in unbroken_lots(two_rows_of(rows))]
    strong = [lot for lot in lots if not any([masks_lap(lot, other) for other in lots])]
    return in_sequence([things_in(lot) for lot in strong])


def count_unbroken(drawings, lot):
    """In how many of all drawings the lot is unbroken in both rows."""
    lot = lot_of(drawings.web.size, lot)
    if not is_part(drawings.web, lot):
        return 0
    part, over = side_by_side(drawings.tied_part.wood, lot, (Wood.FREE, Wood.FULL))
    return drawings.many * part // over
