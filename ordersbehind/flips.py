"""Flips of whole colours, and in how many colours two orders behind a web differ."""

from ordersbehind.checks import pair_of
from ordersbehind.errors import NotLoose
from ordersbehind.forcing import check_tied
from ordersbehind.standings import name_between, order_told, pairs_turned, rows_told, stand_of


def rows_and_stand(behind, order, pair):
    """The rows of sides of the order, and where the pair stands. Raises BadPair, NotBehind, then NotTied."""
    pair = pair_of(behind.web.size, pair)
    rows = rows_told(behind, order)
    check_tied(behind.web, pair)
    return rows, stand_of(behind, pair)


def are_neighbours(row, one, other):
    return abs(row.index(one) - row.index(other)) == 1


def exchanged(row, one, other):
    """The row with its two entries one and other in each other's place."""
    turned = {one: other, other: one}
    return tuple([turned.get(entry, entry) for entry in row])


def loose(behind, order):
    """The names of the loose colours."""
    return tuple(sorted([name_between(behind, place, one, other)
                         for place, row in enumerate(rows_told(behind, order)) for one, other in zip(row, row[1:])]))


def is_loose(behind, order, tie):
    """True if the tie's colour is loose in the order."""
    rows, (place, one, other) = rows_and_stand(behind, order, tie)
    return are_neighbours(rows[place], one, other)


def flip(behind, order, tie):
    """The order with the tie's colour flipped."""
    rows, (place, one, other) = rows_and_stand(behind, order, tie)
    if not are_neighbours(rows[place], one, other):
        raise NotLoose(min(tie), max(tie))
    rows[place] = exchanged(rows[place], one, other)
    return order_told(behind, rows)


def sides_turned(behind, one, other):
    """The place and the two sides of each colour in which the two orders differ."""
    rows = rows_told(behind, one)
    goal = rows_told(behind, other)
    return [(place, low, high) for place, row in enumerate(rows) for low, high in pairs_turned(row, goal[place])]


def differing(behind, one, other):
    """The names of the colours in which the two orders differ."""
    return tuple(sorted([name_between(behind, place, low, high)
                         for place, low, high in sides_turned(behind, one, other)]))


def distance(behind, one, other):
    """In how many colours the two orders differ."""
    return len(sides_turned(behind, one, other))
