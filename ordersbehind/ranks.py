"""Rows of 0 to k - 1: by number, numbered from 0 in ascending order, and by the places of their entries."""

from math import factorial


def rank_of(row):
    """The number of the row."""
    rank = 0
    for place, entry in enumerate(row):
        behind = row[place + 1:]
        rank = rank + len([later for later in behind if later < entry]) * factorial(len(behind))
    return rank


def row_with_rank(many, rank):
    """The row of 0 to many - 1 with this number, a tuple."""
    left = list(range(many))
    row = []
    rest = rank
    while left:
        place, rest = divmod(rest, factorial(len(left) - 1))
        row.append(left[place])
        left = left[:place] + left[place + 1:]
    return tuple(row)


def places_in(row):
    """For each entry, from 0 on, its place in the row, a tuple; of such places it gives back the row."""
    places = [0] * len(row)
    for place, entry in enumerate(row):
        places[entry] = place
    return tuple(places)
