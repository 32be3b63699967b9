"""Asks and answers: points 184 to 189."""

import random
import unittest
from functools import lru_cache
from itertools import combinations
from math import factorial

from ordersbehind.asking import Answerer, Asker, asks_at_least, asks_at_most, idle, least_asks
from ordersbehind.behind import Behind
from ordersbehind.errors import BadPair, NotBehind, NotHeld, NotTied, TooMany
from ordersbehind.orders import Order
from ordersbehind.pins import tells_apart
from ordersbehind.webs import Web
from ordersbehind.wishes import settled
from tests.case import Case, strange_pairs, strange_wholes
from tests.plainly import HAT, LONE, MIXED, PATH, Look, nested_webs, orders_of, webs_with_orders

TRIANGLE = (3, ((0, 1), (0, 2), (1, 2)))


def asked_webs():
    """Webs with orders, not too many of them."""
    told = [web for web, orders in webs_with_orders() if len(orders) <= 24]
    return told + [TRIANGLE, HAT, LONE, MIXED]


def own_log(many):
    """The least h with 2 ** h >= many."""
    h = 0
    while 2 ** h < many:
        h += 1
    return h


def choosing(look):
    """The lots of the knots that choose, each with its kind and its children."""
    return [(lot, look.kind(lot), look.children(lot)) for lot in look.knots() if look.kind(lot) != "free"]


def parting_ties(look, lot, kind):
    return [tie for tie in look.ties if look.parting(*tie) == lot]


def own_ask(look, orders):
    """The tie that point 185 asks, if these orders have all told arrows."""
    for lot, kind, children in choosing(look):
        ties = parting_ties(look, lot, kind)
        if kind == "firm":
            if len({ties[0] in order for order in orders}) > 1:
                return ties[0]
            continue
        row = [0]
        for i in range(1, len(children)):
            # The child i may be behind so many children of the row.
            places = {sum((children[j][0], children[i][0]) in order for j in row) for order in orders}
            low, high = min(places), max(places)
            if low < high:
                j = row[(low + high - 1) // 2]
                return min(tie for tie in ties if set(tie) & set(children[i]) and set(tie) & set(children[j]))
            row.insert(low, i)
    return None


def own_run(look, every, order):
    """The asks for an order thought of, and the arrows told."""
    asks, told = [], []
    while True:
        ask = own_ask(look, [other for other in every if set(told) <= set(other)])
        if ask is None:
            return tuple(asks), told
        asks.append(ask)
        told.append(ask if ask in order else ask[::-1])


class CountsTest(Case):

    def test_against_the_words(self):
        for told in asked_webs() + list(nested_webs(161, 30, 12)):
            b, look = Behind(Web(*told)), Look(*told)
            sizes = [len(knot.children) if knot.kind == "full" else 2 for knot in b.wood.knots if knot.kind != "free"]
            most = sum(own_log(i) for k in sizes for i in range(2, k + 1))
            least = sum(own_log(factorial(k)) for k in sizes)
            self.same((asks_at_most(b), asks_at_least(b)), (most, least))
            if max(sizes, default=0) <= 4:
                self.same(least_asks(b), sum({2: 1, 3: 3, 4: 5}[k] for k in sizes))
                self.same((asks_at_most(b), asks_at_least(b)), (least_asks(b),) * 2)
                # Point 189.
                colours = sum(k * (k - 1) // 2 for k in sizes)
                self.assertEqual(least_asks(b) < colours, 4 in sizes)
                self.assertLessEqual(least_asks(b), colours)
            else:
                self.told(TooMany, {"name": "children"}, least_asks, b)

    def test_known(self):
        b = Behind(Web.full(40))
        self.same((asks_at_most(b), asks_at_least(b)), (sum(own_log(i) for i in range(2, 41)), 160))
        self.told(TooMany, {"name": "children"}, least_asks, b)
        self.told(TooMany, {"name": "children"}, least_asks, Behind(Web.full(5)))
        self.same([least_asks(Behind(Web.full(k))) for k in (1, 2, 3, 4)], [0, 1, 3, 5])
        self.same((asks_at_most(Behind(Web.full(5))), asks_at_least(Behind(Web.full(5)))), (8, 7))
        b = Behind(Web(40))
        self.same((asks_at_most(b), asks_at_least(b), least_asks(b)), (0, 0, 0))
        path = Behind(Web(40, [(a, a + 1) for a in range(39)]))
        self.same((asks_at_most(path), asks_at_least(path), least_asks(path)), (1, 1, 1))

    def test_really_the_least(self):
        """Point 187: by the best ask at each step, for every two sets of orders left of small webs."""
        for told in (TRIANGLE, (3, ((0, 1), (1, 2))), PATH, HAT, (4, ((0, 1), (0, 2), (1, 2), (2, 3))),
                     (4, ((0, 1), (2, 3)))):
            ties = told[1]

            @lru_cache(maxsize=None)
            def needed(orders, ties=ties):
                if len(orders) == 1:
                    return 0
                best = 99
                for tie in ties:
                    one = tuple(order for order in orders if tie in order)
                    if 0 < len(one) < len(orders):
                        other = tuple(order for order in orders if tie not in order)
                        best = min(best, 1 + max(needed(one), needed(other)))
                return best

            self.same(least_asks(Behind(Web(*told))), needed(tuple(orders_of(*told))))


class IdleTest(Case):

    def test_against_the_listed_orders(self):
        chance = random.Random(162)
        for told in asked_webs():
            b, every = Behind(Web(*told)), orders_of(*told)
            for order in every[::3]:
                for many in (0, 1, 2, len(order)):
                    arrows = chance.sample(order, min(many, len(order)))
                    left = [other for other in every if set(arrows) <= set(other)]
                    for tie in told[1]:
                        want = len({tie in other for other in left}) == 1
                        self.same(idle(b, [list(arrow) for arrow in arrows], tie), want)
                        self.same(idle(b, tuple(arrows), [tie[1], tie[0]]), want)
                        self.assertEqual(want, tie in settled(b, arrows) or tie[::-1] in settled(b, arrows))

    def test_errors(self):
        b, w = Behind(Web(*HAT)), Web(*HAT)
        for call in (lambda told: idle(b, told, None), Asker(b).next_ask, Asker(b).found):
            for value in strange_wholes():
                self.told(BadPair, {"place": -1}, call, value)
            for value in strange_pairs(5):
                self.told(BadPair, {"place": 1}, call, [(0, 1), value])
            self.told(BadPair, {"place": 2}, call, [(0, 2), (1, 4), (4, 1)])
            self.told(BadPair, {"place": 1}, call, [(0, 2), (0, 2)])
        for value in strange_pairs(5):
            self.told(BadPair, {"place": 0}, idle, b, [(0, 2)], value)
        self.told(BadPair, {"place": 0}, idle, b, [(0, 2), (0, 3)], (1, 1))
        for call in (lambda told: idle(b, told, (0, 2)), Asker(b).next_ask, Asker(b).found):
            self.told(NotTied, {"first": 1, "second": 3}, call, [(3, 0), (1, 3), (0, 1), (3, 2)])
        # The tie's own error is behind those of the told arrows, and ahead of NotHeld.
        self.told(NotTied, {"first": 2, "second": 0}, idle, b, [(0, 1), (3, 2)], (2, 0))
        self.same(settled(b, [(0, 1), (3, 2)]), None)
        self.same(w.tied(0, 2), False)

    def test_not_held(self):
        b = Behind(Web(*HAT))
        for call in (lambda told: idle(b, told, (0, 1)), Asker(b).next_ask, Asker(b).found):
            self.told(NotHeld, {}, call, [(0, 1), (3, 2)])
            self.told(NotHeld, {}, call, [(0, 4), (4, 3)])
        c = Behind(Web(*TRIANGLE))
        for call in (lambda told: idle(c, told, (0, 1)), Asker(c).next_ask, Asker(c).found):
            self.told(NotHeld, {}, call, [(0, 1), (1, 2), (2, 0)])


class AskerTest(Case):

    def test_runs(self):
        for told in asked_webs():
            b, look, every = Behind(Web(*told)), Look(*told), orders_of(*told)
            k = Asker(b)
            self.assertIs(k.behind, b)
            for order in every[::1 if len(every) < 9 else 5]:
                p = Order(told[0], order)
                asks, arrows = own_run(look, every, order)
                self.same(k.run(p), asks)
                self.assertLessEqual(len(asks), asks_at_most(b))
                for many, ask in enumerate(asks):
                    self.same(k.next_ask(arrows[:many]), ask)
                    self.same(idle(b, arrows[:many], ask), False)
                    self.assertIsNone(k.found(arrows[:many]))
                self.same((k.next_ask(arrows), k.found(list(arrows)).arrows), (None, order))
                self.same(k.next_ask([list(arrow) for arrow in order]), None)
                self.same(k.found(tuple(order)).arrows, order)

    def test_told_arrows_that_are_no_answers(self):
        chance = random.Random(163)
        for told in asked_webs():
            b, look, every = Behind(Web(*told)), Look(*told), orders_of(*told)
            k = Asker(b)
            for order in every[::4]:
                for many in (1, 2, 3):
                    arrows = chance.sample(order, min(many, len(order)))
                    left = [other for other in every if set(arrows) <= set(other)]
                    self.same(k.next_ask(arrows), own_ask(look, left))
                    found = k.found(arrows)
                    self.same(None if found is None else found.arrows, left[0] if len(left) == 1 else None)

    def test_large(self):
        chance = random.Random(164)
        b = Behind(Web.full(40))
        k = Asker(b)
        for row in (tuple(range(40)), tuple(range(39, -1, -1)), tuple(chance.sample(range(40), 40))):
            p = Order.along(row)
            asks = k.run(p)
            self.assertLessEqual(len(asks), asks_at_most(b))
            told = [ask if ask in p else ask[::-1] for ask in asks]
            self.assertTrue(k.found(told) == p)
            self.same((len(set(asks)), k.found(told[:-1])), (len(asks), None))
        self.same(Asker(Behind(Web(40))).run(Order(40)), ())
        self.same(Asker(Behind(Web(40))).found(()).arrows, ())
        # Children 0 to 3 known in the sequence 2, 0, 1, 3: the next one is asked against the one in the middle.
        p = Order.along((2, 0, 1, 3))
        self.same(k.next_ask(p.arrows), (0, 4))
        self.same(k.next_ask(p.arrows + ((0, 4),)), (1, 4))
        self.same(k.next_ask(p.arrows + ((0, 4), (4, 3))), (1, 4))
        self.same(k.next_ask(p.arrows + ((0, 4), (4, 1))), (4, 5))

    def test_no_ties(self):
        k = Asker(Behind(Web(1)))
        self.same((k.next_ask([]), k.run(Order(1)), k.found(()).arrows), (None, (), ()))

    def test_not_behind(self):
        k = Asker(Behind(Web(*PATH)))
        self.told(NotBehind, {"first": -1, "second": -1}, k.run, Order(3))
        self.told(NotBehind, {"first": 0, "second": 1}, k.run, Order(4))

    def test_arguments_stay(self):
        b = Behind(Web(*HAT))
        told = [[0, 1], [4, 0]]
        Asker(b).next_ask(told), Asker(b).found(told), idle(b, told, [1, 4])
        self.assertEqual(told, [[0, 1], [4, 0]])


class Own:
    """An own Answerer, from the words of point 186, that looks at all orders."""

    def __init__(self, look, every):
        self.look, self.every, self.told = look, every, []

    def left(self, more=()):
        return [order for order in self.every if set(self.told) <= set(order) and set(more) <= set(order)]

    def answer(self, tie):
        left, tie = self.left(), tuple(tie)
        for arrow in (tie, tie[::-1]):
            if all(arrow in order for order in left):
                return arrow
        arrow = tuple(sorted(tie))
        lot = self.look.parting(*tie)
        if self.look.kind(lot) == "full":
            children = self.look.children(lot)
            number = {thing: place for place, child in enumerate(children) for thing in child}
            # The other knots multiply both numbers of rows alike.
            arrow = max((tie, tie[::-1]), key=lambda one: (len(self.left([one])), number[one[0]] < number[one[1]]))
        self.told.append(arrow)
        return arrow


class AnswererTest(Case):

    def test_against_the_words(self):
        chance = random.Random(165)
        for told in asked_webs():
            b, look, every = Behind(Web(*told)), Look(*told), orders_of(*told)
            for _ in range(3):
                a, own = Answerer(b), Own(look, every)
                self.same((a.told, a.left), ((), b.many))
                self.assertIs(a.behind, b)
                ties = list(told[1]) * 2
                chance.shuffle(ties)
                for tie in ties:
                    self.look_at(a, own, tie[::-1] if chance.random() < 0.5 else list(tie))
                self.same((a.left, a.sure().arrows), (1, own.left()[0]))

    def look_at(self, a, own, tie):
        before, needless = a.left, idle(a.behind, a.told, tie)
        self.same(a.answer(tie), own.answer(tie))
        self.same(a.told, tuple(own.told))
        self.same(a.left, len(own.left()))
        self.assertTrue(a.left == before if needless else before <= 2 * a.left < 2 * before)
        if a.left == 1:
            self.same(a.sure().arrows, own.left()[0])
            self.assertGreaterEqual(len(a.told), asks_at_least(a.behind))
        else:
            self.assertIsNone(a.sure())

    def test_against_the_asker(self):
        for told in asked_webs() + [(6, tuple(combinations(range(6), 2)))]:
            b = Behind(Web(*told))
            a, k = Answerer(b), Asker(b)
            ask = k.next_ask(a.told)
            while ask is not None:
                a.answer(ask)
                ask = k.next_ask(a.told)
            self.assertTrue(asks_at_least(b) <= len(a.told) <= asks_at_most(b))
            self.assertTrue(a.sure() == k.found(a.told))

    def test_settled_ties(self):
        a = Answerer(Behind(Web(*HAT)))
        self.same([a.answer((3, 2)), a.answer([0, 1]), a.answer((2, 1)), a.told], [(2, 3), (0, 1), (2, 1), ((2, 3),)])
        self.same([a.answer((4, 3)), a.answer([1, 4]), a.told, a.left], [(3, 4), (1, 4), ((2, 3), (3, 4)), 1])

    def test_two_answerers(self):
        b = Behind(Web.full(3))
        a, c = Answerer(b), Answerer(b)
        a.answer((0, 1))
        self.same((a.told, c.told, c.left), (((0, 1),), (), 6))

    def test_twelve_children(self):
        a = Answerer(Behind(Web.full(12)))
        self.same((a.answer((7, 3)), a.answer([11, 3]), a.answer([7, 11])), ((3, 7), (3, 11), (7, 11)))
        self.same(a.left, 479001600 // 6)
        w = Web.full(13) | Web.full(3)
        a = Answerer(Behind(w))
        self.told(TooMany, {"name": "children"}, a.answer, (12, 3))
        self.same((a.told, a.answer((15, 13)), a.left, a.sure()), ((), (13, 15), 6227020800 * 3, None))
        self.same(Answerer(Behind(Web.full(40))).left, Behind(Web.full(40)).many)

    def test_no_ties(self):
        a = Answerer(Behind(Web(3)))
        self.same((a.left, a.sure().arrows, a.told), (1, (), ()))

    def test_errors(self):
        a = Answerer(Behind(Web(*PATH)))
        for value in strange_pairs(4):
            self.told(BadPair, {"place": 0}, a.answer, value)
        self.told(NotTied, {"first": 3, "second": 0}, a.answer, (3, 0))
        self.same((a.told, a.left), ((), 2))
        self.assertIsInstance(vars(Answerer)["left"], property)

    def test_arguments_stay(self):
        a, tie = Answerer(Behind(Web(*PATH))), [1, 0]
        arrow = a.answer(tie)
        tie[0] = 3
        self.same((arrow, a.told), ((0, 1), ((0, 1),)))


class TellsApartTest(Case):

    def test_named_ties(self):
        """Point 189, its first sentence."""
        for told in asked_webs():
            if len(told[1]) <= 6:
                b, look, every = Behind(Web(*told)), Look(*told), orders_of(*told)
                for many in range(len(told[1]) + 1):
                    for ties in combinations(told[1], many):
                        apart = len({tuple(tie in order for tie in ties) for order in every}) == len(every)
                        self.assertEqual(apart, all(set(ties) & set(colour) for colour in look.colours()))
                        self.same(tells_apart(b, ties), apart)


if __name__ == "__main__":
    unittest.main()
