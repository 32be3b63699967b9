"""Unbroken lots: points 113 to 115."""

import random
import unittest
from fractions import Fraction
from math import factorial

from ordersbehind.colourwood import count_colours, count_loose
from ordersbehind.crossings import crossing_web, is_drawing
from ordersbehind.drawings import Drawings
from ordersbehind.errors import BadLot, BadRow
from ordersbehind.turns import turn
from ordersbehind.unbroken import count_unbroken, is_unbroken, strong_by_rows, unbroken_lots
from ordersbehind.webs import Web
from ordersbehind.wood import Wood
from tests.case import Case, strange_things, strange_wholes
from tests.plainly import HAT, MIXED, PATH, Look, every_lot, every_row, laps
from tests.test_drawings import with_drawings


def own_unbroken(row, lot):
    """True if the things of the lot are some neighbours of the row."""
    return any(set(row[start:start + len(lot)]) == set(lot) for start in range(len(row)))


def some_rows(seed):
    """Some rows of the same things, one, two or more."""
    chance = random.Random(seed)
    for size in (1, 2, 3, 4, 5, 6):
        for many in (1, 2, 2, 2, 3, 4):
            for _ in range(5):
                yield tuple(tuple(chance.sample(range(size), size)) for _ in range(many))


def exchanged(rows, lot, backwards):
    """The rows with the things of the lot in the places of each row in the sequence of the other row."""
    found = []
    for row, other in (rows, rows[::-1]):
        things = [thing for thing in other if thing in lot]
        things = things[::-1] if backwards else things
        found.append(tuple(things.pop(0) if thing in lot else thing for thing in row))
    return tuple(found)


class IsUnbrokenTest(Case):

    def test_every_lot(self):
        for size in range(1, 6):
            for row in every_row(size)[::1 if size < 5 else 7]:
                for lot in every_lot(size):
                    self.same(is_unbroken(list(row), lot[::-1]), own_unbroken(row, lot))

    def test_large(self):
        row = tuple(range(39, -1, -1))
        self.same([is_unbroken(row, lot) for lot in (row, (5, 7, 6), (5, 7), [0], [39, 0])],
                  [True, True, False, True, False])

    def test_errors(self):
        for value in strange_wholes() + [(), [], list(range(41)), (0,) * 41]:
            self.told(BadRow, {"place": -1}, is_unbroken, value, None)
        for value in strange_things(4):
            self.told(BadRow, {"place": 1}, is_unbroken, (2, value, 0, 1), None)
        self.told(BadRow, {"place": 3}, is_unbroken, [3, 2, 0, 2], ())
        self.told(BadRow, {"place": 0}, is_unbroken, [1], (0,))
        for value in strange_wholes() + [(), []]:
            self.told(BadLot, {"place": -1}, is_unbroken, (1, 0), value)
        for value in strange_things(2):
            self.told(BadLot, {"place": 1}, is_unbroken, [1, 0], (0, value))
        self.told(BadLot, {"place": 2}, is_unbroken, [1, 0], (0, 1, 0))


class LotsTest(Case):

    def test_some_rows(self):
        for rows in some_rows(51):
            want = sorted(lot for lot in every_lot(len(rows[0])) if all(own_unbroken(row, lot) for row in rows))
            found = unbroken_lots([list(row) for row in rows])
            self.same(found, tuple(want))
            self.same(unbroken_lots(rows), found)

    def test_large(self):
        row = tuple(range(40))
        self.same(len(unbroken_lots([row])), 820)
        self.same(len(unbroken_lots([row, row[::-1], row])), 820)
        self.same(len(unbroken_lots((row, row[1::2] + row[::2]))), 41)

    def test_refused(self):
        for call in (unbroken_lots, strong_by_rows):
            for value in strange_wholes() + [(), [], [()], [(0, 1), (0,)], [list(range(41))], [(0, 1), None]]:
                self.told(BadRow, {"place": -1}, call, value)
            for value in strange_things(3):
                self.told(BadRow, {"place": 1}, call, [[2, value, 0]])
                self.told(BadRow, {"place": 2}, call, ((2, 1, 0), (0, 1, value)))
        self.told(BadRow, {"place": -1}, strong_by_rows, [(0, 1)])
        self.told(BadRow, {"place": -1}, strong_by_rows, [(0, 1)] * 3)
        self.told(BadRow, {"place": 1}, strong_by_rows, [(0, 1), (0, 1), (0, 0)])

    def test_number(self):
        for told in with_drawings():
            w = Web(*told)
            d = Drawings(w)
            firm = sum(knot.kind == "firm" for knot in Wood(w).knots)
            want = told[0] + count_colours(Wood(w)) + count_colours(Wood(~w)) - firm
            for number in sorted({0, d.many // 2, d.many - 1}):
                self.assertEqual(len(unbroken_lots(d.rows(number))), want)

    def test_argument_stays(self):
        rows, lot = [[0, 2, 1], [1, 2, 0]], [2, 0]
        unbroken_lots(rows), strong_by_rows(rows), is_unbroken(rows[0], lot)
        self.assertEqual((rows, lot), ([[0, 2, 1], [1, 2, 0]], [2, 0]))


class StrongTest(Case):

    def test_against_the_wood(self):
        for rows in some_rows(52):
            if len(rows) == 2:
                self.same(strong_by_rows([list(row) for row in rows]), Wood(crossing_web(rows)).lots())
        for told in with_drawings():
            d = Drawings(Web(*told))
            for number in sorted({0, d.many // 3, d.many - 1}):
                self.same(strong_by_rows(d.rows(number)), Wood(d.web).lots())

    def test_against_laps(self):
        for rows in some_rows(53):
            if len(rows) == 2:
                lots = unbroken_lots(rows)
                strong = {lot for lot in lots if not any(laps(lot, other) for other in lots)}
                self.assertEqual(set(strong_by_rows(rows)), strong)

    def test_large(self):
        row = tuple(range(40))
        singles = tuple((thing,) for thing in range(40))
        for other in (row, row[::-1], row[1::2] + row[::2]):
            self.same(strong_by_rows([row, other]), (row,) + singles)
        chance = random.Random(54)
        one, other = tuple(chance.sample(range(40), 40)), tuple(chance.sample(range(40), 40))
        self.same(strong_by_rows((one, other)), Wood(crossing_web((one, other))).lots())


class CountTest(Case):

    def test_every_lot(self):
        for told in with_drawings():
            w, d = Web(*told), Drawings(Web(*told))
            if d.many <= 150 and told[0] <= 7:
                look, every = Look(*told), list(d.by_number())
                strong, parts = look.strong(), look.parts()
                for lot in every_lot(told[0]):
                    many = sum(own_unbroken(one, lot) and own_unbroken(other, lot) for one, other in every)
                    self.same(count_unbroken(d, list(lot)[::-1]), many)
                    self.assertEqual(many == d.many, lot in strong)
                    self.assertEqual(many > 0, lot in parts)
                    union = look.union(lot) if lot in parts else None
                    if union is not None:
                        kind, j, k = union
                        self.assertEqual(Fraction(many, d.many),
                                         Fraction(factorial(j) * factorial(k - j + 1), factorial(k)))

    def test_known(self):
        self.same([count_unbroken(Drawings(Web.full(4)), lot) for lot in ((0, 3), (1, 2, 3), (0, 1, 2, 3), (2,))],
                  [12, 12, 24, 24])
        self.same([count_unbroken(Drawings(Web(4)), lot) for lot in ((0, 3), [3, 1, 2], (0, 1, 2, 3), (2,))],
                  [12, 12, 24, 24])
        d = Drawings(Web(*MIXED))
        self.same([count_unbroken(d, lot) for lot in ((1, 2), (4, 5), (1, 3), (0, 1, 2, 3, 4, 5), (0, 6))],
                  [d.many, d.many, 0, d.many, 0])
        self.same(count_unbroken(Drawings(Web(40)), [0, 39]), 2 * factorial(39))

    def test_errors(self):
        d = Drawings(Web(*PATH))
        for value in strange_wholes() + [(), []]:
            self.told(BadLot, {"place": -1}, count_unbroken, d, value)
        for value in strange_things(4):
            self.told(BadLot, {"place": 1}, count_unbroken, d, (2, value))
        self.told(BadLot, {"place": 2}, count_unbroken, d, [0, 1, 0])


class StepsTest(Case):

    def test_exchanges(self):
        """Exchanging an unbroken lot turns p at the lot; backwards, too, it turns q at the lot."""
        for told in with_drawings():
            d = Drawings(Web(*told))
            if told[0] <= 6:
                for number in sorted({0, d.many // 2, d.many - 1}):
                    rows = d.rows(number)
                    p, q = d.orders_of(rows)
                    for lot in unbroken_lots(rows):
                        plain, turned = exchanged(rows, lot, False), exchanged(rows, lot, True)
                        self.same((is_drawing(d.web, plain), is_drawing(d.web, turned)), (True, True))
                        self.same(plain, d.put_together(turn(p, lot), q))
                        self.same(turned, d.put_together(p, turn(q, lot)))

    def test_enough_steps(self):
        """From each drawing such steps lead to every other one, as many as the loose counts together at the most."""
        for told in [HAT, PATH, (3, ()), (4, ((0, 1), (2, 3))), (5, ((0, 1), (0, 2), (1, 2), (3, 4)))]:
            d = Drawings(Web(*told))
            most = count_loose(Wood(d.web)) + count_loose(Wood(~d.web))
            front = met = {d.rows(0)}
            for _ in range(most):
                front = {exchanged(rows, lot, backwards) for rows in front for lot in unbroken_lots(rows)
                         for backwards in (False, True)} - met
                met = met | front
            self.assertEqual(met, set(d.by_number()))


if __name__ == "__main__":
    unittest.main()
