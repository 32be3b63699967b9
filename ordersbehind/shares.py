"""How often two arrows occur together, and which of three things is in the middle."""

from ordersbehind.checks import thing_of
from ordersbehind.classes import colour_of
from ordersbehind.errors import BadThing
from ordersbehind.forcing import check_tied, two_arrows_of
from ordersbehind.masks import has_thing
from ordersbehind.standings import stand_of


def both(behind, one, other):
    """The share of the orders behind the web that have both arrows, in lowest terms."""
    one, other = two_arrows_of(behind.web, one, other)
    place, low, high = stand_of(behind, one)
    other_place, other_low, other_high = stand_of(behind, other)
    if place == other_place and low == other_low and high == other_high:
        return 1, 2
    if place == other_place and low == other_high and high == other_low:
        return 0, 1
    if place == other_place and (low == other_low or high == other_high):
        return 1, 3
    if place == other_place and (low == other_high or high == other_low):
        return 1, 6
    return 1, 4


def together(behind, one, other):
    """The share of the orders behind the web that have both arrows or neither, in lowest terms."""
    part, over = both(behind, one, other)
    # As many orders have neither as have both.
    return (part, over // 2) if over % 2 == 0 else (2 * part, over)


def three_things_of(web, first, second, third):
    """Raises BadThing or NotTied if these are not three things pairwise tied."""
    thing_of(web.size, first, "first")
    thing_of(web.size, second, "second")
    if second == first:
        raise BadThing("second")
    thing_of(web.size, third, "third")
    if third in (first, second):
        raise BadThing("third")
    check_tied(web, (first, second))
    check_tied(web, (first, third))
    check_tied(web, (second, third))


def names_across(web, first, second, third):
    """For each of three things pairwise tied the name of the colour of the tie of the two others."""
    three_things_of(web, first, second, third)
    return [colour_of(web, tie)[0] for tie in ((second, third), (first, third), (first, second))]


def middle_kind(web, first, second, third):
    """The number of colours of the ties between the three things."""
    return len(set(names_across(web, first, second, third)))


def is_in_middle(order, thing, others):
    one, other = others
    return has_thing(order.ups[one], thing) == has_thing(order.ups[thing], other)


def middle_counts(behind, first, second, third):
    """For each of the three things in how many orders behind the web it is in the middle."""
    names = names_across(behind.web, first, second, third)
    kinds = len(set(names))
    if kinds == 1:
        order = behind.at(0)
        ends = ((first, (second, third)), (second, (first, third)), (third, (first, second)))
        return tuple([behind.many if is_in_middle(order, thing, others) else 0 for thing, others in ends])
    if kinds == 2:
        # The thing whose two ties have one colour is opposite to the tie that has a colour of its own.
        return tuple([0 if names.count(name) == 1 else behind.many // 2 for name in names])
    return (behind.many // 3,) * 3
