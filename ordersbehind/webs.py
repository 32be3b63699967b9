"""Webs: which things are tied in pairs."""

from ordersbehind.checks import MOST_THINGS, is_pair, lot_of, number_of_kind, row_of, thing_of, ties_of
from ordersbehind.masks import all_of, contrary_masks, has_thing, masks_of_pairs, pieces_in, things_in
from ordersbehind.pairs import all_but, pairs_between, pairs_moved, pairs_on, pairs_renamed


def ties_of_masks(masks):
    """The ties, ascending, if masks tell what each thing is tied to."""
    return [(first, second) for first, mask in enumerate(masks) for second in things_in(mask) if first < second]


class Web:
    """A size and a set of ties. Its masks tell for each thing the things that are tied to it."""

    def __init__(self, size, ties=()):
        self.size = number_of_kind(size, 1, MOST_THINGS, "size")
        self.ties = ties_of(self.size, ties)
        self.masks = masks_of_pairs(self.size, self.ties + tuple([(second, first) for first, second in self.ties]))

    @classmethod
    def full(cls, size):
        """The web in which all things are tied."""
        size = number_of_kind(size, 1, MOST_THINGS, "size")
        return cls(size, [(first, second) for first in range(size) for second in range(first + 1, size)])

    def tied(self, first, second):
        thing_of(self.size, first, "first")
        thing_of(self.size, second, "second")
        return has_thing(self.masks[first], second)

    def near(self, thing):
        """The things tied to the thing."""
        return things_in(self.masks[thing_of(self.size, thing)])

    def on(self, lot):
        lot = lot_of(self.size, lot)
        return Web(len(lot), pairs_on(self.ties, lot))

    def without(self, thing):
        lot = all_but(self.size, thing_of(self.size, thing))
        return Web(len(lot), pairs_on(self.ties, lot))

    def renamed(self, row):
        return Web(self.size, pairs_renamed(self.ties, row_of(self.size, row)))

    def pieces(self):
        return tuple([things_in(piece) for piece in pieces_in(self.masks, all_of(self.size))])

    def __invert__(self):
        return Web(self.size, ties_of_masks(contrary_masks(self.masks)))

    def __eq__(self, other):
        return isinstance(other, Web) and self.size == other.size and self.ties == other.ties

    def __len__(self):
        return len(self.masks)

    def __contains__(self, pair):
        return is_pair(self.size, pair) and has_thing(self.masks[pair[0]], pair[1])

    def __iter__(self):
        return iter(self.ties)

    def __or__(self, other):
        return Web(self.size + other.size, list(self.ties) + pairs_moved(other.ties, self.size))

    def __and__(self, other):
        ties = list(self.ties) + pairs_moved(other.ties, self.size) + pairs_between(self.size, other.size)
        return Web(self.size + other.size, ties)
