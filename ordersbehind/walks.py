"""Walks from order to order, one flip at a time, and the nearest order that has an arrow."""

from ordersbehind.behind import MOST_LISTED
from ordersbehind.checks import is_several
from ordersbehind.errors import BadRow, TooMany
from ordersbehind.flips import differing, distance, rows_and_stand
from ordersbehind.standings import count_sides, is_full_at, knot_at, order_told, rows_told


def rows_towards(row, goal):
    """The rows from the row, without it, to the goal: of each two neighbours exchanged that stand otherwise there."""
    now = list(row)
    found = []
    for place, side in enumerate(goal):
        start = now.index(side)
        for at in range(start, place, -1):
            now[at] = now[at - 1]
            now[at - 1] = side
            found.append(tuple(now))
    return found


def walk(behind, one, other):
    """A shortest walk from one order to the other."""
    start = rows_told(behind, one)
    goal = rows_told(behind, other)
    now = list(start)
    orders = [one]
    for place, last in enumerate(goal):
        steps = rows_towards(start[place], last)
        for row in steps:
            now[place] = row
            orders.append(order_told(behind, now))
    return tuple(orders)


def places_in_turn(last, number):
    """All places from 0 to last, downwards if the number is even, otherwise upwards."""
    return list(range(last, -1, -1)) if number % 2 == 0 else list(range(last + 1))


def rows_in_turn(many):
    """All rows of 0 to many - 1, the least first and each next one by an exchange of two neighbours.

    The greatest entry goes through each row of the others from the one end to the other and back.
    """
    rows = [()]
    for entry in range(many):
        rows = [row[:at] + (entry,) + row[at:]
                for number, row in enumerate(rows) for at in places_in_turn(entry, number)]
    return rows


def choices_in_turn(behind):
    """The rows of sides of all orders behind the web, each next one with an exchange at one knot alone."""
    choices = [()]
    for place in range(len(behind.places)):
        upwards = rows_in_turn(count_sides(behind, place))
        downwards = upwards[::-1]
        choices = [choice + (row,) for number, choice in enumerate(choices)
                   for row in (upwards if number % 2 == 0 else downwards)]
    return choices


def flip_walk(behind):
    """A walk that meets every order behind the web once, from the one with number 0 on."""
    if behind.many > MOST_LISTED:
        raise TooMany("orders")
    for choice in choices_in_turn(behind):
        yield order_told(behind, choice)


def flips_of(behind, orders):
    """The names of the colours that are flipped on a walk."""
    if not is_several(orders) or len(orders) == 0:
        raise BadRow(-1)
    names = []
    for place, order in enumerate(orders):
        if order not in behind:
            raise BadRow(place)
        if place > 0:
            flipped = differing(behind, orders[place - 1], order)
            if len(flipped) != 1:
                raise BadRow(place)
            names.append(flipped[0])
    return tuple(names)


def is_heavier(behind, place, one, other):
    """True if one side of a full knot has more things than the other; the sides of a firm knot weigh alike."""
    lots = knot_at(behind, place).children
    return is_full_at(behind, place) and len(lots[one]) > len(lots[other])


def row_asked(behind, place, row, stand):
    """The row with the low side moved just ahead of the high one or, if it is heavier, the high one just behind it."""
    low, high = stand
    moved = high if is_heavier(behind, place, low, high) else low
    rest = [side for side in row if side != moved]
    at = rest.index(low) + 1 if moved == high else rest.index(high)
    return tuple(rest[:at] + [moved] + rest[at:])


def asked(behind, order, arrow):
    """The order itself if it has the arrow, otherwise a nearest order behind the web that has it."""
    rows, (place, low, high) = rows_and_stand(behind, order, arrow)
    if rows[place].index(low) < rows[place].index(high):
        return order
    rows[place] = row_asked(behind, place, rows[place], (low, high))
    return order_told(behind, rows)


def asked_cost(behind, order, arrow):
    """In how many colours and in how many ties the order and its asked order differ."""
    other = asked(behind, order, arrow)
    return distance(behind, order, other), len([pair for pair in order.arrows if pair not in other])
