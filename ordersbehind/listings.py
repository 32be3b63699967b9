"""What a desk looks like, in lines."""

from ordersbehind.behind import Behind
from ordersbehind.checks import is_several, thing_of


def words_of(numbers):
    """The numbers with one space between two."""
    return " ".join([str(number) for number in numbers])


def some_or_none(things):
    """The things with one space between two, or a sign that there are none."""
    return words_of(things) if things else "-"


def thing_line(desk, thing):
    """The things below and above the thing."""
    thing_of(desk.web.size, thing)
    below = some_or_none(desk.order.below(thing))
    above = some_or_none(desk.order.above(thing))
    return f"{thing:>3}: below {below}; above {above}"


def knot_line(knot, entry):
    """The kind and the things of a knot that chooses, and its entry."""
    row = words_of(entry) if is_several(entry) else str(entry)
    return f"{knot.kind:<5} {words_of(knot.lot)}: {row}"


def listing(desk):
    """What web and order are made of, the things, and the knots that choose."""
    behind = Behind(desk.web)
    head = f"things {desk.web.size}, ties {len(desk.web.ties)}, orders {behind.many}, deeds {desk.many}"
    knots = [behind.wood.knots[number] for number in behind.places]
    lines = [head] + [thing_line(desk, thing) for thing in range(desk.web.size)]
    lines.extend([knot_line(knot, entry) for knot, entry in zip(knots, behind.ways_of(desk.order))])
    return "".join([line + "\n" for line in lines])
