"""Rows that fit a web: points 99 and 100."""

import unittest
from math import factorial

from ordersbehind.behind import Behind
from ordersbehind.errors import BadNumber, BadRow, NotClosed, TooMany
from ordersbehind.fitting import count_fitting, fitting_row, order_and_line
from ordersbehind.lines import count_by_wood
from ordersbehind.webs import Web
from tests.case import Case, strange_things, strange_wholes
from tests.plainly import (FIVE, HAT, MIXED, NET, PATH, Look, every_row, every_web, middling_webs, misfits_of,
                           orders_of, webs_with_orders)
from tests.test_counts import own_made_one
from tests.test_lines import own_lines, own_path
from tests.test_turns import own_crossing


def own_order(look, row):
    """The arrows along the row."""
    return tuple(sorted((a, b) if row.index(a) < row.index(b) else (b, a) for a, b in look.ties))


def few_things():
    """Webs of at most five things, with orders or without."""
    yield from (told for told in middling_webs() if told[0] <= 5)
    yield from list(every_web(5))[::19]


class CountTest(Case):

    def test_against_every_row(self):
        for told in few_things():
            look = Look(*told)
            many = sum(not misfits_of(look, row) for row in every_row(told[0]))
            self.same(count_fitting(Web(*told)), many)
            self.assertLessEqual(many, factorial(told[0]))
            apart = all(look.tied(a, c) for a in look.things for c in look.things for b in look.things
                        if a != c and look.tied(a, b) and look.tied(b, c))
            self.assertEqual(many == factorial(told[0]), apart)

    def test_no_orders(self):
        for w in (Web(*FIVE), Web(*NET), Web(*FIVE) | Web(9), Web(*FIVE) & Web.full(9)):
            self.same(count_fitting(w), 0)

    def test_known(self):
        self.same([count_fitting(Web(*told)) for told in (PATH, HAT, MIXED)], [10, 20, 256])
        self.same([count_fitting(Web(14)), count_fitting(Web.full(14)), count_fitting(Web(1))],
                  [factorial(14), factorial(14), 1])
        self.same(count_fitting(own_path(14)), 2 * 199360981)

    def test_bound(self):
        for w in (Web(15), Web.full(15), Web(40), own_path(15), Web(*FIVE) | Web(10), Web(*NET) & Web(34)):
            self.told(TooMany, {"name": "things"}, count_fitting, w)


class ToAndFroTest(Case):

    def test_every_row_that_fits(self):
        for told in few_things():
            look = Look(*told)
            orders = orders_of(*told)
            if orders:
                self.look_at(Behind(Web(*told)), look, orders)

    def look_at(self, b, look, orders):
        numbers = {p.arrows: number for number, p in enumerate(b.by_number())}
        lines = {arrows: own_lines(look.size, arrows) for arrows in orders}
        for row in every_row(look.size):
            arrows = own_order(look, row)
            if misfits_of(look, row):
                self.told(NotClosed, {}, order_and_line, b, row)
            else:
                want = numbers[arrows], lines[arrows].index(row)
                self.same(order_and_line(b, list(row)), want)
                self.same(fitting_row(b, want[0], want[1]), row)
        found = [fitting_row(b, number, place) for number in range(b.many) for place in range(count_by_wood(b))]
        self.same(sorted(found), sorted(row for arrows in orders for row in lines[arrows]))

    def test_not_closed(self):
        b = Behind(Web(*PATH))
        self.told(NotClosed, {"first": 0, "second": 1, "third": 2}, order_and_line, b, (0, 1, 2, 3))
        self.told(NotClosed, {"first": 3, "second": 2, "third": 1}, order_and_line, b, [3, 0, 2, 1])

    def test_large(self):
        b = Behind(Web.full(14))
        row = tuple(range(13, -1, -1))
        self.same(order_and_line(b, row), (factorial(14) - 1, 0))
        self.same(fitting_row(b, factorial(14) - 1, 0), row)
        b = Behind(Web(14))
        self.same(order_and_line(b, list(row)), (0, factorial(14) - 1))
        self.same(fitting_row(b, 0, factorial(14) - 1), row)
        b = Behind(own_path(14))
        for number, place in ((0, 0), (1, 0), (0, 99999999), (1, 199360980), (0, 199360980)):
            row = fitting_row(b, number, place)
            self.same(order_and_line(b, row), (number, place))
        self.same((fitting_row(b, 0, 0), fitting_row(Behind(Web(1)), 0, 0)),
                  ((0, 2, 1, 4, 3, 6, 5, 8, 7, 10, 9, 12, 11, 13), (0,)))

    def test_errors_of_the_row(self):
        b = Behind(Web(*PATH))
        for value in strange_wholes() + [(), (0, 1, 2), [0, 1, 2, 3, 4]]:
            self.told(BadRow, {"place": -1}, order_and_line, b, value)
        for value in strange_things(4):
            self.told(BadRow, {"place": 1}, order_and_line, b, (2, value, 0, 1))
        self.told(BadRow, {"place": 3}, order_and_line, b, [3, 2, 0, 2])
        for size in (15, 40):
            large = Behind(own_path(size))
            row = list(range(0, size, 2)) + list(range(1, size, 2))
            self.told(TooMany, {"name": "things"}, order_and_line, large, row)
            self.told(NotClosed, {"first": 0, "second": 1, "third": 2}, order_and_line, large, list(range(size)))
            self.told(BadRow, {"place": -1}, order_and_line, large, list(range(14)))

    def test_errors_of_the_numbers(self):
        b = Behind(Web(*PATH))
        for value in (-1, 2, True, False, None, 0.0, "0", (0,), 10 ** 40):
            self.told(BadNumber, {"name": "number"}, fitting_row, b, value, 99)
        for value in (-1, 5, True, False, None, 0.0, "0", (0,), 10 ** 40):
            self.told(BadNumber, {"name": "place"}, fitting_row, b, 1, value)
        self.same((fitting_row(b, 0, 4), fitting_row(b, 1, 4)), ((2, 3, 0, 1), (3, 1, 2, 0)))
        for w in (own_path(15), Web(40), Web.full(15)):
            large = Behind(w)
            self.told(BadNumber, {"name": "number"}, fitting_row, large, large.many, None)
            self.told(TooMany, {"name": "things"}, fitting_row, large, large.many - 1, None)

    def test_arguments_stay(self):
        row = [2, 3, 0, 1]
        self.same(order_and_line(Behind(Web(*PATH)), row), (0, 4))
        self.assertEqual(row, [2, 3, 0, 1])


class PairsTest(Case):

    def test_half_have_a_ahead_of_b(self):
        for told, orders in webs_with_orders():
            if 2 <= told[0] <= 5:
                rows = [row for arrows in orders for row in own_lines(told[0], arrows)]
                for a in range(told[0]):
                    for c in range(a):
                        self.assertEqual(2 * sum(row.index(a) < row.index(c) for row in rows), len(rows))

    def test_parts(self):
        """A part of the web is a part of the order in so many pairs as the counts tell."""
        for told, orders in webs_with_orders():
            if told[0] <= 5:
                b, look = Behind(Web(*told)), Look(*told)
                for part in look.parts():
                    pairs = sum(own_crossing(told[0], arrows, part) is None for arrows in orders) * count_by_wood(b)
                    inside = look.on(part)
                    want = len(orders_of(inside.size, inside.ties)) * len(orders_of(*own_made_one(look, part)))
                    self.assertEqual(pairs, want * count_by_wood(b))


if __name__ == "__main__":
    unittest.main()
