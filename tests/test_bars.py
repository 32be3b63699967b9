"""Least barred lots: points 181 to 183."""

import random
import unittest
from itertools import combinations, product
from math import prod

from ordersbehind.bars import bar, bar_papers, bars_of, is_bar
from ordersbehind.classes import colours
from ordersbehind.counts import has_orders
from ordersbehind.errors import BadLot, NotBar, TooMany
from ordersbehind.orders import is_behind
from ordersbehind.rings import is_odd_ring, odd_ring
from ordersbehind.webs import Web
from ordersbehind.wood import Wood, quotient
from tests.case import Case, strange_things, strange_wholes
from tests.plainly import FIVE, NET, PATH, Look, every_lot, every_web, some_webs

TWO = (7, ((0, 1), (0, 4), (1, 2), (1, 5), (2, 3), (3, 4), (4, 5)))


def own_barred(look, lot):
    inside = look.on(lot)
    return any(inside.is_odd(tie) for tie in inside.ties)


def own_bars(size, ties):
    """All least barred lots, from trying every lot."""
    look, found = Look(size, ties), []
    for lot in every_lot(size):
        if not any(set(less) <= set(lot) for less in found) and own_barred(look, lot):
            found.append(lot)
    return tuple(sorted(found))


def own_bar(size, ties):
    """The least barred lot that is found by going through the things from the greatest to the least."""
    look, lot = Look(size, ties), tuple(range(size))
    if not own_barred(look, lot):
        return None
    for thing in reversed(range(size)):
        rest = tuple(other for other in lot if other != thing)
        if own_barred(look, rest):
            lot = rest
    return lot


def ring(size):
    return Web(size, [(a, (a + 1) % size) for a in range(size)])


def barred_webs():
    told = [FIVE, NET, TWO] + [web for web in list(every_web(5))[::3] if not has_orders(Web(*web))]
    told += [web for web in some_webs(151, 90, (6, 7)) if not has_orders(Web(*web))]
    for spread in (((0, 0), (1, 1, 1)), ((2,), (0, 1, 4)), ((3, 3, 1), ())):
        w = Web(*FIVE)
        for thing in spread[0] + spread[1]:
            near = w.near(thing) + ((thing,) if thing in spread[1] else ())
            w = Web(w.size + 1, w.ties + tuple((other, w.size) for other in near))
        if w.size <= 8:
            told.append((w.size, w.ties))
    return list(dict.fromkeys(told))


class BarsOfTest(Case):

    def test_every_lot(self):
        for told in barred_webs() + [PATH, (1, ()), (6, ())]:
            w, want = Web(*told), own_bars(*told)
            self.same(bars_of(w), want)
            for lot in every_lot(told[0])[::1 if told[0] < 7 else 3]:
                self.same(is_bar(w, list(lot)[::-1]), lot in want)
            self.same(bar(w), own_bar(*told))
            if want:
                self.assertIn(bar(w), want)

    def test_lots_in_knots(self):
        """Points 182 and 183."""
        for told in barred_webs():
            w = Web(*told)
            wood, found, total = Wood(w), bars_of(w), 0
            want = []
            for knot in wood.knots:
                if knot.kind == "firm":
                    for lot in bars_of(quotient(wood, knot.number)):
                        total += prod(len(knot.children[child]) for child in lot)
                        want += [tuple(sorted(things)) for things in product(*[knot.children[child] for child in lot])]
            self.assertEqual((len(found), sorted(found)), (total, sorted(want)))
            for lot in found:
                inside = Wood(w.on(lot))
                self.assertGreaterEqual(len(lot), 5)
                self.same((len(inside), inside.knots[0].kind, len(inside.knots[0].children)), (1, "firm", len(lot)))
                self.same((len(colours(w.on(lot))), len(set(odd_ring(w.on(lot))))), (1, len(lot)))
            things = set(odd_ring(w))
            self.assertTrue(any(set(lot) <= things for lot in found))

    def test_nine_things(self):
        chance = random.Random(152)
        for _ in range(3):
            ties = tuple(pair for pair in combinations(range(9), 2) if chance.random() < 0.5)
            self.same(bars_of(Web(9, ties)), own_bars(9, ties))
        self.same(bars_of(ring(9)), (tuple(range(9)),))
        self.same(bars_of(Web(9)), ())

    def test_bound(self):
        for w in (Web(10), Web.full(40), ring(10), ring(11), Web(5) | ring(5)):
            self.told(TooMany, {"name": "things"}, bars_of, w)


class BarTest(Case):

    def test_large(self):
        self.same((bar(Web(40)), bar(Web.full(40)), bar(Web(1)), bar(ring(40))), (None,) * 4)
        self.same(bar(ring(39)), tuple(range(39)))
        self.same(bar(Web(35) | ring(5)), tuple(range(35, 40)))
        self.same(bar(ring(5) | ring(7)), (0, 1, 2, 3, 4))
        # Each thing of the ring is a child of eight things, of which the least ones stay.
        w = Web(40, [(a, b) for a in range(40) for b in range(a + 1, 40) if (a - b) % 5 in (1, 4)])
        self.same((bar(w), is_bar(w, (0, 6, 12, 18, 24)), is_bar(w, (0, 1, 2, 3, 8))), ((0, 1, 2, 3, 4), True, False))

    def test_no_bar(self):
        for told in list(every_web(4)) + [PATH]:
            self.same(bar(Web(*told)), None)
            self.same(is_bar(Web(*told), list(range(told[0]))), False)

    def test_is_bar_errors(self):
        for call in (is_bar, bar_papers):
            for value in strange_wholes() + [(), []]:
                self.told(BadLot, {"place": -1}, call, Web(*FIVE), value)
            for value in strange_things(5):
                self.told(BadLot, {"place": 1}, call, Web(*FIVE), (2, value))
            self.told(BadLot, {"place": 2}, call, Web(*FIVE), [0, 1, 0])

    def test_argument_stays(self):
        lot = [4, 3, 2, 1, 0]
        is_bar(Web(*FIVE), lot), bar_papers(Web(*FIVE), lot)
        self.assertEqual(lot, [4, 3, 2, 1, 0])


class PapersTest(Case):

    def test_every_bar(self):
        for told in barred_webs():
            w = Web(*told)
            for lot in bars_of(w)[:6]:
                self.look_at(w, lot)

    def look_at(self, w, lot):
        found = bar_papers(w, list(lot)[::-1])
        self.same((found.__class__, len(found)), (tuple, 2))
        things, orders = found
        inside = w.on(lot)
        self.same((things.__class__, is_odd_ring(inside, things), len(set(things))), (tuple, True, len(lot)))
        self.same((orders.__class__, len(orders)), (tuple, len(lot)))
        for thing, order in enumerate(orders):
            self.same(is_behind(order, inside.without(thing)), True)

    def test_large(self):
        self.look_at(ring(39), tuple(range(39)))
        self.look_at(Web(33) & ~ring(7), tuple(range(33, 40)))

    def test_not_bar(self):
        for told in barred_webs()[::4]:
            w, good = Web(*told), bars_of(Web(*told))
            for lot in every_lot(told[0])[::5]:
                if lot not in good:
                    self.told(NotBar, {}, bar_papers, w, lot)
        self.told(NotBar, {}, bar_papers, Web(*TWO), (0, 1, 2, 3, 4, 5))
        self.told(NotBar, {}, bar_papers, Web(1), (0,))
        self.told(NotBar, {}, bar_papers, Web.full(40), tuple(range(40)))


if __name__ == "__main__":
    unittest.main()
