"""Rows in which some things have to stand ahead of others.

What is called aheads tells for each thing, as a mask, the things that have to stand ahead of it.
"""

from ordersbehind.errors import TooMany
from ordersbehind.masks import all_of, has_thing

MOST_COUNTED = 14


def check_few(many):
    """Raises TooMany if there are too many things for a count of rows."""
    if many > MOST_COUNTED:
        raise TooMany("things")


def ready_in(aheads, met):
    """The things, ascending, that may come next in a row in which the things of the mask met stand already."""
    return [thing for thing, mask in enumerate(aheads) if not has_thing(met, thing) and mask & ~met == 0]


def onward_counts(aheads):
    """For each mask: in how many ways a row goes on in which its things stand already."""
    counts = [0] * all_of(len(aheads)) + [1]
    for met in range(all_of(len(aheads)) - 1, -1, -1):
        counts[met] = sum([counts[met | (1 << thing)] for thing in ready_in(aheads, met)])
    return counts


def count_rows(aheads):
    """The number of all rows; 0 if what has to stand ahead leads round in a ring."""
    return onward_counts(aheads)[0]
