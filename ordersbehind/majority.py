"""The nearest order behind a web with one thing more: a majority of the old ties in each colour."""

from ordersbehind.behind import Behind
from ordersbehind.checks import pair_of
from ordersbehind.classes import class_from, colour_of
from ordersbehind.errors import OtherWeb
from ordersbehind.forcing import check_tied
from ordersbehind.growing import check_for, check_orders
from ordersbehind.masks import all_of, mask_of, things_in
from ordersbehind.ranks import places_in
from ordersbehind.standings import is_full_at, knot_at, order_told


def behind_for(order, web):
    """The orders behind the web. Raises NotBehind if the order is not for the web, then NoOrders."""
    check_for(order, web)
    return Behind(web)


def arrows_across(order, one, other):
    """The number of the order's arrows from things of one to things of other, two masks that may have a new thing."""
    old = things_in(one & all_of(order.size))
    return sum([len(things_in(order.ups[thing] & other)) for thing in old])


def tally_at(behind, place, order):
    """For each two sides of a knot that chooses how many of the order's arrows lead from the one to the other."""
    if is_full_at(behind, place):
        lots = [mask_of(child) for child in knot_at(behind, place).children]
        return [[arrows_across(order, one, other) for other in lots] for one in lots]
    lead = behind.leads[place]
    along = len([arrow for arrow in lead if arrow in order])
    against = len([first for first, second in lead if (second, first) in order])
    return [[0, along], [against, 0]]


def pairs_tallied(tally):
    """For each two sides how many arrows lead from the first to the second one, and how many lead back."""
    return [(along, tally[high][low]) for low, row in enumerate(tally) for high, along in enumerate(row) if low < high]


def least_old_goes_along(lead, order):
    """True if the order has that arrow of a firm knot's lead whose tie is the least one of two old things."""
    old = sorted([(min(arrow), max(arrow), arrow) for arrow in lead if order.size not in arrow])
    return old[0][2] in order


def is_below(behind, place, order, tally, sides):
    """True if the nearest order has the first one of two sides of a knot below the second one."""
    low, high = sides
    if tally[low][high] != tally[high][low]:
        return tally[low][high] > tally[high][low]
    if is_full_at(behind, place):
        return order.size in knot_at(behind, place).children[high]
    return least_old_goes_along(behind.leads[place], order) == (low == 0)


def count_below(behind, place, order, tally, side):
    """The number of sides of a knot that the nearest order has below the side."""
    return len([low for low in range(len(tally))
                if low != side and is_below(behind, place, order, tally, (low, side))])


def row_nearest(behind, place, order):
    """The row of the sides of a knot that chooses in the nearest order."""
    tally = tally_at(behind, place, order)
    return places_in([count_below(behind, place, order, tally, side) for side in range(len(tally))])


def nearest(order, web):
    """The order behind the web that takes of each colour the class along which more old ties go."""
    behind = behind_for(order, web)
    return order_told(behind, [row_nearest(behind, place, order) for place in range(len(behind.places))])


def tallies(order, web):
    """For each knot that chooses the pairs tallied of its sides."""
    behind = behind_for(order, web)
    return [pairs_tallied(tally_at(behind, place, order)) for place in range(len(behind.places))]


def least_turned(order, web):
    """The least number of old ties whose arrow an order behind the web turns."""
    return sum([min(pair) for pairs in tallies(order, web) for pair in pairs])


def count_nearest(order, web):
    """The number of orders behind the web that turn so few old ties."""
    many = 1
    for pairs in tallies(order, web):
        # Only where the new thing takes part can as many old ties go along as against.
        many = many * (1 + len([along for along, against in pairs if along == against]))
    return many


def turned_ties(order, other):
    """The number of the order's arrows whose contraries the other order has, which may have one thing more."""
    if other.size not in (order.size, order.size + 1):
        raise OtherWeb(-1, -1)
    return len([first for first, second in order.arrows if (second, first) in other])


def majority_of(order, web, tie):
    """How many old ties of the tie's colour go along its least tie's class, lesser thing below, and against it."""
    pair = pair_of(web.size, tie)
    check_for(order, web)
    check_tied(web, pair)
    check_orders(web)
    arrows = class_from(web, colour_of(web, pair)[0])
    along = len([arrow for arrow in arrows if arrow in order])
    return along, len([first for first, second in arrows if (second, first) in order])
