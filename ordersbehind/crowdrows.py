"""Rows of crowds of a web of spans: one for each order behind the contrary of the web."""

from ordersbehind.bottoms import bottom_bar, bottom_order, count_bottoms, count_ends, ends_order
from ordersbehind.checks import first_bad_thing, is_several, lot_of
from ordersbehind.crowdlines import crowds_along, free_part_of, spans_along
from ordersbehind.crowds import crowds, is_crowd_mask
from ordersbehind.errors import BadCrowds, NotCrowd, TooMany
from ordersbehind.masks import mask_of
from ordersbehind.orders import check_behind
from ordersbehind.spans import first_come

MOST_LISTED = 5000


class CrowdRows:
    """All rows of crowds of a web."""

    def __init__(self, web):
        self.web = web
        self.free_part = free_part_of(web)
        self.crowds_told = crowds(web)

    @property
    def many(self):
        """The number of rows of crowds."""
        return self.free_part.many

    def crowd_row(self, order):
        """The row of crowds that an order behind the contrary of the web makes."""
        check_behind(order, self.free_part.web)
        return crowds_along(order, self.crowds_told)

    def order_of_crowds(self, row):
        """The order behind the contrary of the web that the row of crowds makes."""
        place = bad_place(self.web.size, self.crowds_told, row)
        if place is not None:
            raise BadCrowds(place)
        return first_come(spans_along(self.web.size, row))

    def at(self, number):
        """The row of crowds with the number."""
        return crowds_along(self.free_part.at(number), self.crowds_told)

    def number_of(self, row):
        """The number of the row of crowds."""
        return self.free_part.number_of(self.order_of_crowds(row))

    def by_number(self):
        """All rows of crowds, one after the other."""
        if self.many > MOST_LISTED:
            raise TooMany("rows")
        for number in range(self.many):
            yield self.at(number)


def lot_in(size, value):
    """The lot that the value is, ascending; () if it is none."""
    if not is_several(value) or first_bad_thing(size, value) >= 0:
        return ()
    return tuple(sorted(value))


def bad_place(size, lots, row):
    """The place that keeps the value from being a row of the crowds, all of which are the lots; None if it is one."""
    if not is_several(row) or len(row) != len(lots):
        return -1
    met = {}
    for place, value in enumerate(row):
        lot = lot_in(size, value)
        if lot not in lots or lot in met:
            return place
        met[lot] = True
    return place_of_gap([mask_of(lot) for lot in row])


def place_of_gap(masks):
    """The first place whose lot, a mask, has a thing of an earlier lot that the one just ahead lacks; None without."""
    earlier = 0
    ahead = 0
    for place, mask in enumerate(masks):
        if mask & earlier & ~ahead:
            return place
        earlier = earlier | mask
        ahead = mask
    return None


def is_crowd_row(web, row):
    """True if the value is a list or tuple that is a row of crowds of the web."""
    # In a row of crowds each crowd has a thing that no earlier one has.
    if not is_several(row) or len(row) > web.size:
        return False
    try:
        lots = crowds(web)
    except TooMany:
        return False
    return bad_place(web.size, lots, row) is None


def check_crowd(web, lot):
    """Raises NotCrowd if the lot is no crowd."""
    if not is_crowd_mask(web, mask_of(lot)):
        raise NotCrowd()


def crowd_of(web, crowd):
    """The crowd, ascending, and the orders behind the contrary of the web."""
    crowd = lot_of(web.size, crowd)
    check_crowd(web, crowd)
    return crowd, free_part_of(web)


def two_crowds_of(web, one, other):
    """The two crowds, ascending, and the orders behind the contrary of the web."""
    one = lot_of(web.size, one)
    other = lot_of(web.size, other)
    check_crowd(web, one)
    check_crowd(web, other)
    return one, other, free_part_of(web)


def row_made(web, order):
    """The row of crowds that the order makes, None if there is no order."""
    return None if order is None else crowds_along(order, crowds(web))


def first_crowd(web, crowd):
    """The first row of crowds by number that begins with the crowd, None if there is none."""
    crowd, free_part = crowd_of(web, crowd)
    return row_made(web, bottom_order(free_part, crowd))


def first_bar(web, crowd):
    """A chain from an arrow into the crowd to one out of it, None if a row of crowds begins with the crowd."""
    crowd, free_part = crowd_of(web, crowd)
    return bottom_bar(free_part, crowd)


def count_first(web, crowd):
    """The number of rows of crowds that begin with the crowd."""
    crowd, free_part = crowd_of(web, crowd)
    return count_bottoms(free_part, crowd)


def both_ends(web, one, other):
    """The first row of crowds by number that begins with one and ends with other, None if there is none."""
    one, other, free_part = two_crowds_of(web, one, other)
    return row_made(web, ends_order(free_part, one, other))


def count_both_ends(web, one, other):
    """The number of rows of crowds that begin with one and end with other."""
    one, other, free_part = two_crowds_of(web, one, other)
    return count_ends(free_part, one, other)
