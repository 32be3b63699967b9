"""Stretches, carried rows and Carriers: points 95 and 96."""

import random
import unittest
from itertools import groupby

from ordersbehind.behind import Behind
from ordersbehind.carrying import Carrier, carried, stretches
from ordersbehind.errors import BadLot, BadRow, NotInLine, NotPart, OtherWeb
from ordersbehind.lines import in_line
from ordersbehind.orders import Order
from ordersbehind.turns import turn, turns
from ordersbehind.webs import Web
from tests.case import Case, strange_things, strange_wholes
from tests.plainly import HAT, MIXED, every_lot, every_order, every_row, nested_webs, webs_with_orders
from tests.test_lines import own_jumps, own_lines
from tests.test_turns import own_crossing


def own_runs(row, lot):
    """The runs of neighbours inside and outside the lot: (inside, things)."""
    return [(inside, tuple(run)) for inside, run in groupby(row, key=lambda thing: thing in lot)]


def own_carried(row, lot):
    """Stretch by stretch, as point 95 writes it."""
    runs = own_runs(row, lot)
    left = [run for inside, run in runs if inside]
    found = ()
    for inside, run in runs:
        found += left.pop()[::-1] if inside else run
    return found


def small_orders():
    for size in range(1, 5):
        yield from ((size, arrows) for arrows in list(every_order(size))[::1 if size < 4 else 3])


class StretchesTest(Case):

    def test_every_lot_of_rows(self):
        for size in range(1, 6):
            for row in every_row(size)[::1 if size < 5 else 7]:
                for lot in every_lot(size):
                    want = tuple(run for inside, run in own_runs(row, lot) if inside)
                    self.same(stretches(list(row), lot[::-1]), want)

    def test_one_thing_and_many(self):
        self.same(stretches([0], (0,)), ((0,),))
        row = tuple(range(39, -1, -1))
        self.same(stretches(row, [0]), ((0,),))
        self.same(stretches(row, list(range(40))), (row,))
        self.same(stretches(list(row), tuple(range(0, 40, 2))), tuple((thing,) for thing in range(38, -1, -2)))
        self.same(stretches(row, (39, 38, 0, 1, 2)), ((39, 38), (2, 1, 0)))

    def test_errors(self):
        for value in strange_wholes() + [(), [], list(range(41)), (0,) * 41]:
            self.told(BadRow, {"place": -1}, stretches, value, None)
        for value in strange_things(4):
            self.told(BadRow, {"place": 1}, stretches, (2, value, 0, 1), None)
        self.told(BadRow, {"place": 3}, stretches, [3, 2, 0, 2], ())
        self.told(BadRow, {"place": 0}, stretches, [1], (0,))
        for value in strange_wholes() + [(), []]:
            self.told(BadLot, {"place": -1}, stretches, (1, 0), value)
        for value in strange_things(2):
            self.told(BadLot, {"place": 1}, stretches, [1, 0], (0, value))
        self.told(BadLot, {"place": 2}, stretches, [1, 0], (0, 1, 0))


class CarriedTest(Case):

    def test_small_orders(self):
        for size, arrows in small_orders():
            p = Order(size, arrows)
            lines = own_lines(size, arrows)
            for lot in every_lot(size):
                if own_crossing(size, arrows, lot) is None:
                    q = turn(p, lot)
                    for row in lines:
                        self.look_at(p, q, lot, row)
                    self.assertEqual(len({carried(p, lot, row) for row in lines}), len(lines))

    def look_at(self, p, q, lot, row):
        found = carried(p, lot[::-1], list(row))
        self.same(found, own_carried(row, lot))
        self.same(in_line(q, found), True)
        self.assertEqual(own_jumps(found, q.arrows), own_jumps(row, p.arrows))
        self.same(carried(q, list(lot), found), row)

    def test_known(self):
        p = Order(4, [(1, 2)])
        self.same(carried(p, (2, 1, 0), (0, 3, 1, 2)), (2, 1, 3, 0))
        self.same(carried(p, (1, 2), (1, 3, 0, 2)), (2, 3, 0, 1))
        self.same(carried(p, (0,), (1, 3, 0, 2)), (1, 3, 0, 2))
        # Nothing stands ahead of the first stretch, or something; nothing between is left out.
        self.same(carried(Order(6), [5, 4, 1], [5, 4, 0, 2, 1, 3]), (1, 0, 2, 4, 5, 3))
        self.same(carried(Order(40), list(range(40)), tuple(range(40))), tuple(range(39, -1, -1)))

    def test_errors(self):
        p = Order(4, [(0, 1), (2, 1), (2, 3)])
        for value in strange_wholes() + [(), []]:
            self.told(BadLot, {"place": -1}, carried, p, value, None)
        for value in strange_things(4):
            self.told(BadLot, {"place": 1}, carried, p, (2, value), None)
        for value in strange_wholes() + [(), (0, 1, 2), [0, 1, 2, 3, 4]]:
            self.told(BadRow, {"place": -1}, carried, p, (0, 1), value)
        for value in strange_things(4):
            self.told(BadRow, {"place": 1}, carried, p, (0, 1), (2, value, 0, 1))
        self.told(BadRow, {"place": 3}, carried, p, [0, 1], [3, 2, 0, 2])
        self.told(NotPart, {"thing": 2}, carried, p, [1, 0], (3, 2, 1, 0))
        # The web has more parts than the order.
        self.told(NotPart, {"thing": 1}, carried, Order.along((0, 1, 2)), (2, 0), [2, 1, 0])
        self.told(NotInLine, {"first": 0, "second": 1}, carried, p, [2, 0, 1, 3], (3, 2, 1, 0))
        self.told(NotInLine, {"first": 2, "second": 1}, carried, p, (3,), [0, 1, 2, 3])

    def test_arguments_stay(self):
        lot, row = [2, 1, 0], [0, 3, 1, 2]
        carried(Order(4, [(1, 2)]), lot, row)
        stretches(row, lot)
        self.assertEqual((lot, row), ([2, 1, 0], [0, 3, 1, 2]))


class CarrierTest(Case):

    def test_one_to_one(self):
        for told, orders in webs_with_orders():
            if told[0] <= 5:
                known = [Order(told[0], arrows) for arrows in orders]
                lines = [own_lines(told[0], arrows) for arrows in orders]
                for one in range(0, len(orders), 3):
                    for other in range(0, len(orders), 2):
                        self.look_at(known[one], known[other], lines[one], lines[other])

    def look_at(self, p, q, lines, others):
        c = Carrier(p, q)
        self.assertTrue(c.one is p and c.other is q)
        self.same(c.steps, turns(p, q))
        found = [c(list(row)) for row in lines]
        self.assertEqual(sorted(found), others)
        for row, there in zip(lines, found):
            self.assertIs(there.__class__, tuple)
            self.assertEqual(own_jumps(row, p.arrows), own_jumps(there, q.arrows))
        back = c.backwards()
        self.assertIs(back.__class__, Carrier)
        self.assertTrue(back.one == q and back.other == p)
        self.same(back.steps, c.steps[::-1])
        self.same([back(row) for row in found], lines)
        self.assertTrue(back.backwards() == c)

    def test_steps_one_after_another(self):
        b = Behind(Web(*MIXED))
        p, q = b.at(1), b.at(6)
        c = Carrier(p, q)
        row = tuple(sorted(range(7), key=lambda thing: (len(p.below(thing)), thing)))
        there, now = row, p
        for lot in c.steps:
            there = carried(now, lot, there)
            now = turn(now, lot)
        self.assertTrue(now == q)
        self.same(c(row), there)

    def test_large(self):
        chance = random.Random(3)
        for told in nested_webs(29, 6, 40):
            b = Behind(Web(*told))
            p, q = b.at(b.many // 3), b.at(b.many - 1)
            things = list(range(told[0]))
            chance.shuffle(things)
            row = tuple(sorted(things, key=lambda thing: len(p.below(thing))))
            c = Carrier(p, q)
            self.same(in_line(q, c(row)), True)
            self.same(c.backwards()(c(row)), row)

    def test_equal_orders(self):
        p = Order(4, [(0, 1), (2, 1), (2, 3)])
        c = Carrier(p, Order(4, p.arrows))
        self.same((c.steps, c([2, 0, 3, 1])), ((), (2, 0, 3, 1)))
        self.assertTrue(c == c.backwards())

    def test_equal(self):
        b = Behind(Web(*HAT))
        p, q, r = b.at(0), b.at(3), b.at(2)
        c = Carrier(p, q)
        self.same((c == Carrier(b.at(0), b.at(3)), c != Carrier(p, q)), (True, False))
        self.same([c == other for other in (Carrier(q, p), Carrier(p, r), Carrier(r, q), Carrier(p, p))], [False] * 4)
        for value in (None, 0, p, c.steps, "carrier", (p, q), [c]):
            self.same((c == value, c != value), (False, True))
        # The steps count, too: backwards of the way back has those of the way there.
        back = Carrier(q, p)
        self.same(back == c.backwards(), back.steps == c.steps[::-1])

    def test_errors(self):
        p = Order(4, [(0, 1), (2, 1), (2, 3)])
        self.told(OtherWeb, {"first": 0, "second": 1}, Carrier, p, Order(4))
        self.told(OtherWeb, {"first": 2, "second": 3}, Carrier, Order(4, [(0, 1), (2, 1)]), p)
        self.told(OtherWeb, {"first": -1, "second": -1}, Carrier, p, Order(5))
        c = Carrier(p, ~p)
        for value in strange_wholes() + [(), (0, 1, 2), [0, 1, 2, 3, 4]]:
            self.told(BadRow, {"place": -1}, c, value)
        for value in strange_things(4):
            self.told(BadRow, {"place": 1}, c, (2, value, 0, 1))
        self.told(NotInLine, {"first": 0, "second": 1}, c, (3, 2, 1, 0))
        self.told(NotInLine, {"first": 2, "second": 3}, c, [0, 3, 2, 1])
        self.told(NotInLine, {"first": 1, "second": 0}, c.backwards(), [0, 1, 3, 2])

    def test_each_time_its_own_row(self):
        c = Carrier(Order.along((0, 1)), Order.along((1, 0)))
        row = [0, 1]
        self.same((c(row), c(row), row), ((1, 0), (1, 0), [0, 1]))
        self.same(c.backwards()((1, 0)), (0, 1))


if __name__ == "__main__":
    unittest.main()
