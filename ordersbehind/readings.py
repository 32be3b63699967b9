"""What is read out of webs of two rows and of the orders behind them, along the wood.

A reading of a lot tells the lot's name, the lot's things in the sequence in which their dots stand in the
name, and how many renamings from the lot to itself there are. So if two readings have one name, taking
each thing of the one to the thing of the other that has the same dot is a renaming.
"""

from math import factorial

from ordersbehind.drawings import Drawings
from ordersbehind.manyrows import row_on
from ordersbehind.orders import web_of
from ordersbehind.ranks import places_in
from ordersbehind.wood import Wood


class Reading:
    """A name, the things of its dots, and the number of renamings from the lot to itself."""

    def __init__(self, name, things, renamings):
        self.name = name
        self.things = things
        self.renamings = renamings


def free_name(names):
    """The name of a free knot whose children have these names."""
    return "(" + "".join(sorted(names)) + ")"


def full_name(names):
    """The name of a full knot whose children have these names, in this sequence."""
    return "[" + "".join(names) + "]"


def firm_text(names, rows):
    """The text that a drawing of the quotient of a firm knot reads out; the names are by the children's numbers."""
    one, other = rows
    places = places_in(other)
    width = len(str(len(names) - 1))
    return "".join([str(places[child]).zfill(width) + names[child] for child in one])


def two_drawings(rows):
    """The two drawings of the quotient of a firm knot whose first rows turn it into the same order."""
    one, other = rows
    return [(one, other), (other[::-1], one[::-1])]


def four_drawings(rows):
    """All drawings of the quotient of a firm knot."""
    one, other = rows
    return two_drawings((one, other)) + two_drawings((other, one))


def things_told(readings):
    """The things of the readings, one reading after the other."""
    return tuple([thing for reading in readings for thing in reading.things])


def renamings_told(readings):
    """In how many ways each of the lots is renamed to itself."""
    many = 1
    for reading in readings:
        many = many * reading.renamings
    return many


def exchanges(readings):
    """In how many ways lots of the same names can be put in each other's place."""
    names = [reading.name for reading in readings]
    many = 1
    for name in sorted(set(names)):
        many = many * factorial(names.count(name))
    return many


def free_reading(readings):
    named = sorted(readings, key=lambda reading: reading.name)
    name = free_name([reading.name for reading in named])
    return Reading(name, things_told(named), renamings_told(named) * exchanges(named))


def full_reading(readings, row, directed):
    """The reading of a full knot; of an order, if directed, whose children stand in the row from below upwards."""
    if directed:
        named = [readings[child] for child in row]
        many = 1
    else:
        named = sorted(readings, key=lambda reading: reading.name)
        many = exchanges(named)
    name = full_name([reading.name for reading in named])
    return Reading(name, things_told(named), renamings_told(named) * many)


def firm_reading(readings, drawings):
    """The reading of a firm knot, whose quotient has these drawings to be read out."""
    names = [reading.name for reading in readings]
    texts = [firm_text(names, rows) for rows in drawings]
    least = min(texts)
    one, _ = drawings[texts.index(least)]
    things = things_told([readings[child] for child in one])
    return Reading("<" + least + ">", things, renamings_told(readings) * texts.count(least))


def reading_at(knot, readings, rows, directed):
    """The reading of the knot, if its children have these readings and its quotient the drawing rows."""
    if knot.kind == Wood.FREE:
        return free_reading(readings)
    if knot.kind == Wood.FULL:
        return full_reading(readings, rows[0], directed)
    return firm_reading(readings, two_drawings(rows) if directed else four_drawings(rows))


def rows_at(knot, rows):
    """The drawing of the knot's quotient that is in a drawing of the web."""
    leaders = knot.leaders()
    return row_on(rows[0], leaders), row_on(rows[1], leaders)


def reading_along(wood, rows, directed):
    """The reading of the wood's web with the drawing rows, or, if directed, of the order of its ties along rows[0]."""
    known = {(thing,): Reading(".", (thing,), 1) for thing in range(wood.web.size)}
    for knot in reversed(wood.knots):
        readings = [known[lot] for lot in knot.children]
        known[knot.lot] = reading_at(knot, readings, rows_at(knot, rows), directed)
    return known[tuple(range(wood.web.size))]


def web_reading(web):
    """The reading of the web. Raises NoRows."""
    drawings = Drawings(web)
    return reading_along(drawings.tied_part.wood, drawings.rows(0), False)


def order_reading(order):
    """The reading of the order. Raises NoRows."""
    drawings = Drawings(web_of(order))
    rows = drawings.put_together(order, drawings.free_part.at(0))
    return reading_along(drawings.tied_part.wood, rows, True)
