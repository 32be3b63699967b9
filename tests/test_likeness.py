"""Webs and orders that are alike, and renamings: points 136 and 141 to 145."""

import random
import unittest
from functools import lru_cache
from itertools import combinations
from math import factorial

from ordersbehind.behind import Behind
from ordersbehind.counts import count_orders
from ordersbehind.crossings import crossing_web
from ordersbehind.drawings import Drawings
from ordersbehind.errors import NoRows
from ordersbehind.fitting import count_fitting
from ordersbehind.likeness import (alike, count_order_renamings, count_permutations, count_renamings, order_renaming,
                                   orders_alike, renaming)
from ordersbehind.names import order_name, rows_spelling, spelled, web_name
from ordersbehind.orders import Order
from ordersbehind.rings import is_odd_ring
from ordersbehind.webs import Web
from tests.case import Case
from tests.plainly import FIVE, HAT, PATH, every_row, every_web, nested_webs
from tests.test_drawings import SIX, with_drawings
from tests.test_names import own_path


# Rows of six that spell firm knots whose four drawings read out one text.
FOUR_ALIKE = [(2, 4, 0, 5, 1, 3), (3, 1, 5, 0, 4, 2)]


@lru_cache(maxsize=None)
def own_renamings(size, pairs, others, arrows):
    """All rows that rename the pairs of things into the others, with or without direction."""
    def told(a, b):
        return (a, b) if arrows or a < b else (b, a)
    return [row for row in every_row(size) if {told(row[a], row[b]) for a, b in pairs} == set(others)]


def small_drawn():
    return [told for told in with_drawings() if told[0] <= 5]


class WebsTest(Case):

    def test_pairs_of_small_webs(self):
        told = [web for web in small_drawn() if web[0] <= 3] + [web for web in every_web(4)][::3]
        for one in told:
            for other in told[::2]:
                self.look_at(one, other)
        for one, other in combinations([web for web in small_drawn() if web[0] == 5][:24], 2):
            self.look_at(one, other)

    def look_at(self, one, other):
        w, v = Web(*one), Web(*other)
        every = own_renamings(one[0], one[1], other[1], False) if one[0] == other[0] else []
        self.same(alike(w, v), bool(every))
        self.assertEqual(web_name(w) == web_name(v), bool(every))
        found = renaming(w, v)
        if every:
            self.assertIn(found, every)
            self.assertTrue(w.renamed(found) == v)
            self.assertEqual(count_renamings(w), len(every))
        else:
            self.assertIsNone(found)

    def test_to_itself(self):
        for told in with_drawings():
            if told[0] <= 7:
                self.same(count_renamings(Web(*told)), len(own_renamings(told[0], told[1], told[1], False)))

    def test_renamed(self):
        chance = random.Random(111)
        for told in list(nested_webs(112, 25, 12)) + with_drawings()[::3]:
            w = Web(*told)
            v = w.renamed(tuple(chance.sample(range(w.size), w.size)))
            found = renaming(w, v)
            self.same((found.__class__, alike(w, v)), (tuple, True))
            self.assertTrue(w.renamed(found) == v)
            self.same(count_renamings(w), count_renamings(v))

    def test_known(self):
        self.same([count_renamings(Web(*told)) for told in (PATH, HAT, (1, ()))], [2, 2, 1])
        self.same((count_renamings(Web(40)), count_renamings(Web.full(40))), (factorial(40),) * 2)
        self.same(count_renamings(Web(20) & Web(20)), 2 * factorial(20) ** 2)
        self.same((alike(Web(40), Web(39)), renaming(Web(40), Web(39)), alike(Web(40), Web.full(40))),
                  (False, None, False))
        self.same([count_renamings(own_path(size)) for size in (5, 10, 11, 40)], [2, 2, 2, 2])

    def test_factors_of_firm_knots(self):
        """Webs of firm knots alone with 1, 2 and 4 renamings, each against trying all rows."""
        met = {}
        for places in every_row(6)[::7] + FOUR_ALIKE:
            w = crossing_web(rows_spelling(places))
            if Drawings(w).many == 4:
                many = count_renamings(w)
                self.same(many, len(own_renamings(6, w.ties, w.ties, False)))
                met[many] = True
        self.assertEqual(sorted(met), [1, 2, 4])

    def test_drawings_renamed(self):
        """Point 143, for firm knots without other knots."""
        for places in every_row(6)[::17] + every_row(5)[::5]:
            w = crossing_web(rows_spelling(places))
            d = Drawings(w)
            if d.many == 4:
                for row in own_renamings(w.size, w.ties, w.ties, False):
                    for one, other in d.by_number():
                        image = tuple(row[a] for a in one), tuple(row[a] for a in other)
                        four = [(one, other), (other, one), (one[::-1], other[::-1]), (other[::-1], one[::-1])]
                        self.assertIn(image, four)
                        self.assertEqual(image == (one, other), row == tuple(range(w.size)))

    def test_no_rows(self):
        good = Web(*PATH)
        for told, contrary in ((FIVE, False), (SIX, True)):
            w = Web(*told)
            for call in (alike, renaming):
                for args in ((w, good), (good, w), (w, Web(1)), (Web(40), w)):
                    error = self.told(NoRows, {"contrary": contrary}, call, *args)
                    self.same(is_odd_ring(~w if contrary else w, error.ring), True)
            for call in (count_renamings, count_permutations):
                self.told(NoRows, {"contrary": contrary}, call, w)
        # One comes ahead of other.
        for call in (alike, renaming):
            self.told(NoRows, {"contrary": True}, call, Web(*SIX), Web(*FIVE))
            self.told(NoRows, {"contrary": False}, call, Web(*FIVE), Web(*SIX))


class OrdersTest(Case):

    def few_orders(self):
        for told in small_drawn()[::3]:
            b = Behind(Web(*told))
            for number in sorted({0, 1 % b.many, b.many // 2, b.many - 1}):
                yield b.at(number)

    def test_pairs_of_small_orders(self):
        every = list(self.few_orders())
        for one in every[::2]:
            for other in every[::3] + [~one]:
                same = one.size == other.size
                found = own_renamings(one.size, one.arrows, other.arrows, True) if same else []
                self.same(orders_alike(one, other), bool(found))
                self.assertEqual(order_name(one) == order_name(other), bool(found))
                got = order_renaming(one, other)
                if found:
                    self.assertIn(got, found)
                    self.assertTrue(one.renamed(got) == other)
                    self.assertEqual(count_order_renamings(one), len(found))
                else:
                    self.assertIsNone(got)

    def test_to_itself(self):
        for told in with_drawings():
            if told[0] <= 6:
                b = Behind(Web(*told))
                for number in sorted({0, b.many // 2, b.many - 1}):
                    p = b.at(number)
                    self.same(count_order_renamings(p), len(own_renamings(p.size, p.arrows, p.arrows, True)))

    def test_renamed(self):
        chance = random.Random(113)
        for told in nested_webs(114, 25, 12):
            b = Behind(Web(*told))
            p = b.at(chance.randrange(b.many))
            q = p.renamed(chance.sample(range(p.size), p.size))
            self.assertTrue(p.renamed(order_renaming(p, q)) == q)
            self.same((orders_alike(p, q), count_order_renamings(p)), (True, count_order_renamings(q)))

    def test_known(self):
        p = Order.along((2, 0, 1))
        self.same((orders_alike(p, ~p), order_renaming(p, ~p), count_order_renamings(p)), (True, (0, 2, 1), 1))
        self.same((count_order_renamings(Order(40)), count_order_renamings(Order(1))), (factorial(40), 1))
        q = Order(3, [(0, 2), (1, 2)])
        self.same((orders_alike(q, ~q), order_renaming(q, ~q), count_order_renamings(q)), (False, None, 2))
        self.same(orders_alike(Order(3), Order(4)), False)

    def test_likeness_of_those_behind_a_web(self):
        """Point 145."""
        for told in small_drawn():
            b = Behind(Web(*told))
            every = list(b.by_number())
            for p in every[::5]:
                like = sum(orders_alike(p, q) for q in every)
                self.same(like, count_renamings(b.web) // count_order_renamings(p))
                self.same(like, sum(orders_alike(~p, q) for q in every))
            self.assertEqual(Drawings(b.web).many % count_renamings(b.web), 0)
            self.assertEqual(count_fitting(b.web) % count_renamings(b.web), 0)

    def test_no_rows(self):
        bad, good = Behind(Web(*SIX)).at(0), Order(2)
        for call in (orders_alike, order_renaming):
            for args in ((bad, good), (good, bad), (bad, bad)):
                self.told(NoRows, {"contrary": True}, call, *args)
        self.told(NoRows, {"contrary": True}, count_order_renamings, bad)


class PermutationsTest(Case):

    def test_against_every_drawing(self):
        for told in with_drawings():
            d = Drawings(Web(*told))
            if d.many <= 500:
                tuples = {spelled(rows) for rows in d.by_number()}
                self.same(count_permutations(d.web), len(tuples))
                self.same(count_permutations(d.web), d.many // count_renamings(d.web))

    def test_all_tuples(self):
        """Point 144: a tuple is spelled by a drawing exactly if its rows cross in a web that is alike."""
        for size in range(1, 5):
            names = {}
            for places in every_row(size):
                names.setdefault(web_name(crossing_web(rows_spelling(places))), []).append(places)
            self.assertEqual(sum(map(len, names.values())), factorial(size))
            for told in every_web(size):
                w = Web(*told)
                want = sorted(names[web_name(w)])
                self.assertEqual(sorted({spelled(rows) for rows in Drawings(w).by_number()}), want)
                self.same(count_permutations(w), len(want))

    def test_known(self):
        self.same([count_permutations(w) for w in (Web(40), Web.full(40), Web(1), Web(*PATH))], [1, 1, 1, 2])
        self.same(count_permutations(Web(20) | Web.full(20)), 21)
        self.same(count_orders(own_path(40)), 2)


if __name__ == "__main__":
    unittest.main()
