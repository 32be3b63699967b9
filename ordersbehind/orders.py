"""Orders: which things are below which others."""

from ordersbehind.checks import MOST_THINGS, any_row_of, arrows_of, is_pair, lot_of, number_of_kind, row_of, thing_of
from ordersbehind.errors import NotBehind, NotClosed
from ordersbehind.masks import has_thing, least_in, least_unlike, masks_of_pairs, things_in
from ordersbehind.pairs import all_but, pairs_between, pairs_moved, pairs_on, pairs_renamed
from ordersbehind.webs import Web


def first_gap(ups):
    """The least (a, b, c) with arrows (a, b) and (b, c) alone, None if the arrows are closed.

    ups tell for each thing the things above it; no two arrows are contrary.
    """
    for first, above in enumerate(ups):
        for second in things_in(above):
            missing = ups[second] & ~above
            if missing:
                return first, second, least_in(missing)
    return None


class Order:
    """A size and a closed set of arrows. Its ups and downs are masks of what is above and below each thing."""

    def __init__(self, size, arrows=()):
        self.size = number_of_kind(size, 1, MOST_THINGS, "size")
        self.arrows = arrows_of(self.size, arrows)
        self.ups = masks_of_pairs(self.size, self.arrows)
        gap = first_gap(self.ups)
        if gap is not None:
            first, second, third = gap
            raise NotClosed(first, second, third)
        self.downs = masks_of_pairs(self.size, [(upper, lower) for lower, upper in self.arrows])

    @classmethod
    def along(cls, row):
        """The order in which each thing is below all things behind it in the row."""
        row = any_row_of(row)
        return cls(len(row), [(thing, later) for place, thing in enumerate(row) for later in row[place + 1:]])

    def has(self, first, second):
        thing_of(self.size, first, "first")
        thing_of(self.size, second, "second")
        return has_thing(self.ups[first], second)

    def below(self, thing):
        return things_in(self.downs[thing_of(self.size, thing)])

    def above(self, thing):
        return things_in(self.ups[thing_of(self.size, thing)])

    def bottoms(self):
        return tuple([thing for thing, mask in enumerate(self.downs) if mask == 0])

    def tops(self):
        return tuple([thing for thing, mask in enumerate(self.ups) if mask == 0])

    def on(self, lot):
        lot = lot_of(self.size, lot)
        return Order(len(lot), pairs_on(self.arrows, lot))

    def without(self, thing):
        lot = all_but(self.size, thing_of(self.size, thing))
        return Order(len(lot), pairs_on(self.arrows, lot))

    def renamed(self, row):
        return Order(self.size, pairs_renamed(self.arrows, row_of(self.size, row)))

    def __invert__(self):
        return Order(self.size, [(second, first) for first, second in self.arrows])

    def __eq__(self, other):
        return isinstance(other, Order) and self.size == other.size and self.arrows == other.arrows

    def __len__(self):
        return len(self.ups)

    def __contains__(self, pair):
        return is_pair(self.size, pair) and has_thing(self.ups[pair[0]], pair[1])

    def __iter__(self):
        return iter(self.arrows)

    def __or__(self, other):
        return Order(self.size + other.size, list(self.arrows) + pairs_moved(other.arrows, self.size))

    def __and__(self, other):
        arrows = list(self.arrows) + pairs_moved(other.arrows, self.size) + pairs_between(self.size, other.size)
        return Order(self.size + other.size, arrows)


def web_of(order):
    """The web that ties two things if one is below the other."""
    return Web(order.size, order.arrows)


def tied_in(order):
    """For each thing the mask of the things that are below or above it."""
    return [above | below for above, below in zip(order.ups, order.downs)]


def unlike_pair(order, web):
    """The least pair that is tied in one of the web and the order's web alone, None if the order is behind the web."""
    return least_unlike(tied_in(order), web.masks)


def is_behind(order, web):
    return unlike_pair(order, web) is None


def check_behind(order, web):
    """Raises NotBehind if the order is not behind the web."""
    pair = unlike_pair(order, web)
    if pair is not None:
        first, second = pair
        raise NotBehind(first, second)
