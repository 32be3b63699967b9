"""Ways, one after the other, and what they share."""

from ordersbehind.behind import number_of_ways, ways_from, ways_with_number
from ordersbehind.checks import is_several
from ordersbehind.classes import colours, is_odd
from ordersbehind.forcing import arrow_of


def first_ways(behind):
    """The ways with number 0."""
    return ways_with_number(behind, 0)


def next_ways(behind, ways):
    """The ways with the next number, None if there are none."""
    number = number_of_ways(behind, ways_from(behind, ways)) + 1
    return ways_with_number(behind, number) if number < behind.many else None


def contrary_ways(behind, ways):
    """The ways that mean the contrary order."""
    return tuple([entry[::-1] if is_several(entry) else 1 - entry for entry in ways_from(behind, ways)])


def with_arrow(behind, arrow):
    """The number of orders behind the web that have the arrow."""
    arrow_of(behind.web, arrow)
    return behind.many // 2


def only_contraries(web):
    """True if exactly two orders are behind the web."""
    found = colours(web)
    return len(found) == 1 and not is_odd(web, found[0][0])


def choice_line(knot, entry):
    """The things, the kind and the entry of a knot."""
    row = entry if is_several(entry) else (entry,)
    words = [str(thing) for thing in knot.lot] + [knot.kind] + [str(number) for number in row]
    return " ".join(words) + "\n"


def choice_text(behind, ways):
    """A line for each knot that chooses."""
    entries = ways_from(behind, ways)
    knots = [behind.wood.knots[number] for number in behind.places]
    return "".join([choice_line(knot, entry) for knot, entry in zip(knots, entries)])
