"""Unlike orders and the table of rows: points 144 and 145."""

import unittest
from collections import Counter
from math import factorial

from ordersbehind.behind import Behind
from ordersbehind.counts import count_orders
from ordersbehind.crossings import crossing_web
from ordersbehind.drawings import Drawings
from ordersbehind.errors import BadNumber, NoRows, TooMany
from ordersbehind.likeness import alike, count_order_renamings, count_permutations, count_renamings, orders_alike
from ordersbehind.names import order_name, rows_spelling, web_name
from ordersbehind.orders import Order
from ordersbehind.rings import is_odd_ring
from ordersbehind.unlike import is_like_contrary, permutation_table, unlike_orders, web_like_contrary
from ordersbehind.webs import Web
from tests.case import Case
from tests.plainly import FIVE, HAT, PATH, every_row, nested_webs
from tests.test_drawings import SIX, with_drawings
from tests.test_names import own_path


class UnlikeOrdersTest(Case):

    def test_against_naming_every_order(self):
        for told in with_drawings() + list(nested_webs(121, 25, 10)):
            b = Behind(Web(*told))
            if b.many <= 150:
                every = [order_name(p) for p in b.by_number()]
                self.same(unlike_orders(b.web), tuple(sorted(Counter(every).items())))

    def test_sums(self):
        for told in nested_webs(122, 30, 9):
            b = Behind(Web(*told))
            if b.many <= 5000:
                found = unlike_orders(b.web)
                self.same(sum(many for _, many in found), b.many)
                for number in sorted({0, b.many // 2, b.many - 1}):
                    p = b.at(number)
                    known = dict(found)
                    self.same(known[order_name(p)], count_renamings(b.web) // count_order_renamings(p))
                    self.same(known[order_name(p)], known[order_name(~p)])
                v = b.web.renamed(tuple(range(b.web.size))[::-1])
                self.same(unlike_orders(v), found)

    def test_known(self):
        self.same(unlike_orders(Web(1)), ((".", 1),))
        self.same(unlike_orders(Web(40)), (("(" + "." * 40 + ")", 1),))
        self.same(unlike_orders(Web.full(6)), (("[......]", 720),))
        self.same(unlike_orders(Web(*PATH)), (("<1.3.0.2.>", 2),))
        self.same(unlike_orders(Web(*HAT)), (("[.<1.3.0.2.>]", 2), ("[<1.3.0.2.>.]", 2)))
        self.same(len(unlike_orders(own_path(5))), 2)
        # Firm knots of eleven children, inside a free and a full one.
        w = own_path(11) & (own_path(11) | Web(1))
        found = unlike_orders(w)
        self.same((sum(many for _, many in found), count_orders(w)), (8, 8))
        self.assertEqual({order_name(p) for p in Behind(w).by_number()}, {name for name, _ in found})

    def test_bound(self):
        # 4,608 and 5,040 are the nearest numbers to the bound.
        w = Web.full(3) | Web(2)
        for number in range(3):
            w = (w & Web(1)) | Web(1)
        w = w & Web.full(3)
        w = (w | Web(1)) & Web(1)
        for _ in range(3):
            if count_orders(w) < 4608:
                w = (w | Web(1)) & Web(1)
        self.same(count_orders(w), 4608)
        self.same(sum(many for _, many in unlike_orders(w)), 4608)
        self.told(TooMany, {"name": "orders"}, unlike_orders, Web.full(7))
        self.told(TooMany, {"name": "orders"}, unlike_orders, Web.full(40))
        self.told(TooMany, {"name": "orders"}, unlike_orders, Web.full(3) | Web.full(3) | Web.full(3) | Web.full(4))

    def test_no_rows(self):
        for told, contrary in ((FIVE, False), (SIX, True)):
            w = ~Web(*told) if contrary else Web(*told)
            error = self.told(NoRows, {"contrary": contrary}, unlike_orders, Web(*told))
            self.same(is_odd_ring(w, error.ring), True)
        # NoRows comes ahead of TooMany.
        self.told(NoRows, {"contrary": False}, unlike_orders, Web(*FIVE) & Web.full(20))
        self.told(NoRows, {"contrary": True}, unlike_orders, Web(*SIX) & Web.full(20))


class ContraryTest(Case):

    def test_orders(self):
        met = {}
        for told in with_drawings():
            b = Behind(Web(*told))
            for number in sorted({0, b.many // 2, b.many - 1}):
                p = b.at(number)
                self.same(is_like_contrary(p), orders_alike(p, ~p))
                met[is_like_contrary(p)] = True
        self.assertEqual(sorted(met), [False, True])

    def test_webs(self):
        met = {}
        for told in with_drawings():
            w = Web(*told)
            self.same(web_like_contrary(w), alike(w, ~w))
            met[web_like_contrary(w)] = True
        self.assertEqual(sorted(met), [False, True])

    def test_known(self):
        self.same([is_like_contrary(Order.along((2, 0, 1))), is_like_contrary(Order(3, [(0, 1), (0, 2)]))],
                  [True, False])
        self.same([web_like_contrary(w) for w in (Web(1), Web(2), Web(*PATH), own_path(5), Web(40))],
                  [True, False, True, False, False])

    def test_no_rows(self):
        self.told(NoRows, {"contrary": True}, is_like_contrary, Behind(Web(*SIX)).at(0))
        self.told(NoRows, {"contrary": True}, web_like_contrary, Web(*SIX))
        self.told(NoRows, {"contrary": False}, web_like_contrary, ~Web(*SIX))
        self.told(NoRows, {"contrary": False}, web_like_contrary, Web(*FIVE))


class TableTest(Case):

    def test_against_every_row(self):
        for size in range(1, 7):
            names = Counter(web_name(crossing_web(rows_spelling(places))) for places in every_row(size))
            found = permutation_table(size)
            self.same(found, tuple(sorted(names.items())))
            self.same(sum(many for _, many in found), factorial(size))
            if size < 6:
                for places in every_row(size)[::3]:
                    w = crossing_web(rows_spelling(places))
                    self.same(dict(found)[web_name(w)], count_permutations(w))
                    self.same(dict(found)[web_name(w)], Drawings(w).many // count_renamings(w))

    def test_known(self):
        self.same(permutation_table(1), ((".", 1),))
        self.same(permutation_table(2), (("(..)", 1), ("[..]", 1)))

    def test_errors(self):
        for value in (0, 7, -1, 40, True, False, None, 3.0, "3", (3,), [3], 10 ** 30):
            self.told(BadNumber, {"name": "size"}, permutation_table, value)


if __name__ == "__main__":
    unittest.main()
