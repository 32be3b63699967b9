"""Pins: arrows that no other order behind a web has all of. Ties that tell all orders apart."""

from ordersbehind.checks import arrows_of, ties_of
from ordersbehind.colourwood import count_colours
from ordersbehind.errors import NotArrow
from ordersbehind.flips import loose
from ordersbehind.forcing import check_tied
from ordersbehind.standings import arrows_between, name_of, stand_of


def names_met(behind, pairs):
    """The names of the colours of some ties or arrows of the web, each once, ascending."""
    return sorted({name_of(behind, pair) for pair in pairs})


def is_pin(behind, order, arrows):
    """True if no other order behind the web has all of the arrows."""
    arrows = arrows_of(behind.web.size, arrows)
    names = loose(behind, order)
    for first, second in arrows:
        if (first, second) not in order:
            raise NotArrow(first, second)
    met = names_met(behind, arrows)
    return all([name in met for name in names])


def pin(behind, order):
    """The order's arrow of the name of each loose colour."""
    return tuple(sorted([tie if tie in order else (tie[1], tie[0]) for tie in loose(behind, order)]))


def colour_size(behind, tie):
    """The number of ties in the tie's colour."""
    place, one, other = stand_of(behind, tie)
    return len(arrows_between(behind, place, one, other))


def count_pins(behind, order):
    """The number of the order's pins with the least number of arrows."""
    many = 1
    for name in loose(behind, order):
        many = many * colour_size(behind, name)
    return many


def tells_apart(behind, ties):
    """True if no two orders behind the web agree in all of the ties."""
    ties = ties_of(behind.web.size, ties)
    for tie in ties:
        check_tied(behind.web, tie)
    return len(names_met(behind, ties)) == count_colours(behind.wood)
