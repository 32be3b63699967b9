"""Drawings: two rows that cross exactly at the ties of a web.

An order behind the web and one behind its contrary together have one arrow for any two things, and all
these arrows lead along one row.
"""

from ordersbehind.behind import Behind
from ordersbehind.checks import number_of_kind
from ordersbehind.counts import count_orders
from ordersbehind.crossings import crossing_web, two_rows_of
from ordersbehind.errors import NoOrders, NoRows, NotDrawing, TooMany
from ordersbehind.masks import least_unlike, things_in
from ordersbehind.orders import check_behind, web_of
from ordersbehind.plain import turned_by
from ordersbehind.ranks import places_in

MOST_LISTED = 5000


def side_of(web, contrary):
    """The orders behind the web, which is the contrary of another one if the flag says so."""
    try:
        return Behind(web)
    except NoOrders as e:
        raise NoRows(e.ring, contrary) from e


class Drawings:
    """All drawings of a web."""

    def __init__(self, web):
        self.web = web
        self.tied_part = side_of(web, False)
        self.free_part = side_of(~web, True)

    @property
    def many(self):
        """The number of drawings."""
        return self.tied_part.many * self.free_part.many

    def rows(self, number):
        """The drawing with the number."""
        number_of_kind(number, 0, self.many - 1, "number")
        tied, free = divmod(number, self.free_part.many)
        return rows_together(self.tied_part.at(tied), self.free_part.at(free))

    def orders_of(self, rows):
        """The order behind the web and the one behind its contrary that make the drawing."""
        rows = two_rows_of(rows)
        check_drawing(self.web, rows)
        return turned_by(self.web, rows[0]), turned_by(self.free_part.web, rows[0])

    def number_of_rows(self, rows):
        """The number of the drawing."""
        order, other = self.orders_of(rows)
        return self.tied_part.number_of(order) * self.free_part.many + self.free_part.number_of(other)

    def put_together(self, order, other):
        """The drawing that an order behind the web and one behind its contrary make."""
        check_behind(order, self.web)
        check_behind(other, self.free_part.web)
        return rows_together(order, other)

    def by_number(self):
        """All drawings, one after the other."""
        if self.many > MOST_LISTED:
            raise TooMany("drawings")
        for number in range(self.many):
            yield self.rows(number)


def row_over(masks, others):
    """The row, if the things that stand ahead of a thing are those of its two masks."""
    return places_in([len(things_in(mask | more)) for mask, more in zip(masks, others)])


def rows_together(order, other):
    """Two rows with the arrows of other; the first one has those of the order, the second one their contraries."""
    return row_over(order.downs, other.downs), row_over(order.ups, other.downs)


def check_drawing(web, rows):
    """Raises NotDrawing if the two rows are no drawing of the web."""
    pair = least_unlike(web.masks, crossing_web(rows).masks)
    if pair is not None:
        first, second = pair
        raise NotDrawing(first, second)


def some_drawing(web):
    """The drawing with the number 0."""
    return Drawings(web).rows(0)


def pair_for(order):
    """Two rows whose common part is the order."""
    other = side_of(~web_of(order), True).at(0)
    return row_over(order.downs, other.downs), row_over(order.downs, other.ups)


def count_pairs_for(order):
    """Of how many pairs of rows the order is the common part."""
    return count_orders(~web_of(order))
