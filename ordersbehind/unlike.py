"""How many unlike orders are behind a web, and how many unlike webs the rows of a size spell."""

from ordersbehind.checks import number_of_kind
from ordersbehind.crossings import crossing_web
from ordersbehind.drawings import Drawings
from ordersbehind.errors import TooMany
from ordersbehind.names import order_name, rows_spelling, web_name
from ordersbehind.ranks import places_in
from ordersbehind.readings import firm_text, free_name, full_name, reading_along, rows_at, two_drawings
from ordersbehind.walks import rows_in_turn
from ordersbehind.wood import Wood

MOST_LISTED = 5000
LARGEST_TABLE = 6


def choices_of(tables):
    """All choices of one name from each table, and how often each occurs; a table tells how often each name occurs."""
    choices = [((), 1)]
    for table in tables:
        choices = [(names + (name,), many * often) for names, many in choices for name, often in table.items()]
    return choices


def least_text(names, drawings):
    return "<" + min([firm_text(names, rows) for rows in drawings]) + ">"


def names_at(knot, names, rows):
    """The knot's name in each of the orders that differ at this knot alone; names are those of its children."""
    if knot.kind == Wood.FREE:
        return [free_name(names)]
    if knot.kind == Wood.FULL:
        return [full_name([names[child] for child in row]) for row in rows_in_turn(len(names))]
    return [least_text(names, two_drawings(rows)), least_text(names, two_drawings((rows[1], rows[0])))]


def table_at(knot, tables, rows):
    """How often each name of the knot occurs, if the tables tell it of its children."""
    found = {}
    for names, many in choices_of(tables):
        for name in names_at(knot, names, rows):
            found[name] = found.get(name, 0) + many
    return found


def in_names(table):
    """The names and numbers of the table, by name."""
    return tuple([(name, table[name]) for name in sorted(table)])


def unlike_orders(web):
    """Each name that orders behind the web have, and how many of them have it."""
    drawings = Drawings(web)
    if drawings.tied_part.many > MOST_LISTED:
        raise TooMany("orders")
    rows = drawings.rows(0)
    known = {(thing,): {".": 1} for thing in range(web.size)}
    for knot in reversed(drawings.tied_part.wood.knots):
        known[knot.lot] = table_at(knot, [known[lot] for lot in knot.children], rows_at(knot, rows))
    return in_names(known[tuple(range(web.size))])


def is_like_contrary(order):
    """True if the order and its contrary are alike."""
    return order_name(order) == order_name(~order)


def web_like_contrary(web):
    """True if the web and its contrary are alike."""
    return web_name(web) == web_name(~web)


def name_spelled(places):
    """The name of the web in which the rows that spell the places cross."""
    rows = rows_spelling(places)
    return reading_along(Wood(crossing_web(rows)), rows, False).name


def spelled_backwards(places):
    """What two rows spell when both are written backwards."""
    return tuple([len(places) - 1 - place for place in places[::-1]])


def spelled_alike(places):
    """What the rows spell that spell the places, those in each other's place, and both of these backwards."""
    turned = places_in(places)
    return sorted({places, turned, spelled_backwards(places), spelled_backwards(turned)})


def permutation_table(size):
    """Each name of the webs in which rows of this size cross, and how many rows spell such webs."""
    number_of_kind(size, 1, LARGEST_TABLE, "size")
    found = {}
    met = {}
    for places in rows_in_turn(size):
        if places not in met:
            # Rows in each other's place or written backwards cross in webs that are alike.
            alike_ones = spelled_alike(places)
            for other in alike_ones:
                met[other] = True
            name = name_spelled(places)
            found[name] = found.get(name, 0) + len(alike_ones)
    return in_names(found)
