"""Rows in which some things have to stand ahead of others.

What is called aheads tells for each thing, as a mask, the things that have to stand ahead of it.
"""

from math import factorial

from ordersbehind.errors import TooMany
from ordersbehind.masks import all_of, has_thing, pieces_in, things_in

MOST_COUNTED = 14


def check_few(many):
    """Raises TooMany if there are too many things for a count of rows."""
    if many > MOST_COUNTED:
        raise TooMany("things")


def ready_in(aheads, met):
    """The things, ascending, that may come next in a row in which the things of the mask met stand already."""
    return [thing for thing, mask in enumerate(aheads) if not has_thing(met, thing) and mask & ~met == 0]


def onward_counts(aheads):
    """For each mask: in how many ways a row goes on in which its things stand already."""
    counts = [0] * all_of(len(aheads)) + [1]
    for met in range(all_of(len(aheads)) - 1, -1, -1):
        counts[met] = sum([counts[met | (1 << thing)] for thing in ready_in(aheads, met)])
    return counts


def pieces_of(aheads):
    """The pieces, as masks, into which the things fall if each thing is tied to those that stand ahead of it."""
    tied = list(aheads)
    for thing, mask in enumerate(aheads):
        for other in things_in(mask):
            tied[other] = tied[other] | (1 << thing)
    return pieces_in(tied, all_of(len(tied)))


def counts_longer(needs, counts):
    """For each mask of one thing more the number of rows of its things, if counts tell it for masks of so many things.

    The needs tell for each thing the mask of the things ahead of it, and the same mask with the thing.
    """
    found = {}
    for met, many in counts.items():
        for ahead, both in needs:
            if met & both == ahead:
                found[met | both] = found.get(met | both, 0) + many
    return found


def count_in_piece(aheads, piece):
    """The number of rows of the piece's things."""
    needs = [(aheads[thing], aheads[thing] | (1 << thing)) for thing in things_in(piece)]
    # Only what can stand at the beginning of a row is met here, which is little where much has to stand ahead.
    counts = {0: 1}
    for _ in needs:
        counts = counts_longer(needs, counts)
    return counts.get(piece, 0)


def mixtures(sizes):
    """In how many ways rows of these sizes are mixed into one row."""
    many = factorial(sum(sizes))
    for size in sizes:
        many = many // factorial(size)
    return many


def count_rows(aheads):
    """The number of all rows; 0 if what has to stand ahead leads round in a ring."""
    pieces = pieces_of(aheads)
    many = mixtures([len(things_in(piece)) for piece in pieces])
    for piece in pieces:
        many = many * count_in_piece(aheads, piece)
    return many
