"""Rows that fit a web: each is in line with just one order behind it."""

from ordersbehind.behind import Behind
from ordersbehind.checks import number_of_kind
from ordersbehind.counts import count_orders
from ordersbehind.lines import count_by_wood
from ordersbehind.plain import turned_by
from ordersbehind.rowcounts import check_few, onward_counts, ready_in


def count_fitting(web):
    """The number of rows that fit the web."""
    check_few(web.size)
    many = count_orders(web)
    return many * count_by_wood(Behind(web)) if many > 0 else 0


def line_number(order, row):
    """How many rows in line with the order are less than the row, which is in line with it."""
    onward = onward_counts(order.downs)
    met = 0
    lesser = 0
    for thing in row:
        others = [other for other in ready_in(order.downs, met) if other < thing]
        lesser = lesser + sum([onward[met | (1 << other)] for other in others])
        met = met | (1 << thing)
    return lesser


def line_with_number(order, number):
    """The row in line with the order than which just so many others are less, a tuple."""
    onward = onward_counts(order.downs)
    met = 0
    left = number
    row = []
    while len(row) < order.size:
        ready = ready_in(order.downs, met)
        at = 0
        while left >= onward[met | (1 << ready[at])]:
            left = left - onward[met | (1 << ready[at])]
            at = at + 1
        row.append(ready[at])
        met = met | (1 << ready[at])
    return tuple(row)


def order_and_line(behind, row):
    """The number of the order into which the row turns the web, and how many rows in line with it are less."""
    order = turned_by(behind.web, row)
    check_few(behind.web.size)
    return behind.number_of(order), line_number(order, row)


def fitting_row(behind, number, place):
    """The row for which order_and_line tells the number and the place."""
    number_of_kind(number, 0, behind.many - 1, "number")
    check_few(behind.web.size)
    number_of_kind(place, 0, count_by_wood(behind) - 1, "place")
    return line_with_number(behind.at(number), place)
