"""Arrows of a web, and which of them force which others."""

from ordersbehind.checks import pair_of
from ordersbehind.errors import NotTied
from ordersbehind.masks import has_thing, things_in


def check_tied(web, pair):
    """Raises NotTied if the two things are not tied."""
    if not has_thing(web.masks[pair[0]], pair[1]):
        raise NotTied(pair[0], pair[1])


def arrow_of(web, arrow):
    """The arrow as a tuple; for a tie, too, with its things as passed."""
    arrow = pair_of(web.size, arrow)
    check_tied(web, arrow)
    return arrow


def two_arrows_of(web, one, other):
    """The two arrows as tuples, both examined as pairs before either is examined for being tied."""
    one = pair_of(web.size, one)
    other = pair_of(web.size, other)
    check_tied(web, one)
    check_tied(web, other)
    return one, other


def forced_from(web, arrow):
    """The arrows that an arrow of the web forces, a list."""
    first, second = arrow
    ends = web.masks[first] & ~web.masks[second] & ~(1 << second)
    starts = web.masks[second] & ~web.masks[first] & ~(1 << first)
    return [(first, end) for end in things_in(ends)] + [(start, second) for start in things_in(starts)]


def forced_by(web, arrow):
    """The arrows that the arrow forces, ascending."""
    return tuple(sorted(forced_from(web, arrow_of(web, arrow))))


def forces(web, first, last):
    """True if the arrow first forces the arrow last."""
    first, last = two_arrows_of(web, first, last)
    return last in forced_from(web, first)
