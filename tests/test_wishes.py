"""Wishes: points 76 to 79."""

import random
import unittest
from itertools import combinations, permutations
from math import factorial

from ordersbehind.behind import Behind
from ordersbehind.chains import is_chain
from ordersbehind.classes import class_of
from ordersbehind.errors import BadNumber, BadPair, NotTied, TooMany
from ordersbehind.orders import Order
from ordersbehind.pins import is_pin
from ordersbehind.walks import asked
from ordersbehind.webs import Web
from ordersbehind.wishes import count_held, forced_ring, held, is_forced_ring, row_count, settled
from tests.case import Case, strange_pairs, strange_things, strange_wholes
from tests.plainly import FIVE, HAT, MIXED, NET, PATH, Look, nested_webs, turned_back, webs_with_orders
from tests.test_flips import own_differing

FULL13 = Web.full(13)


def some_wishes(look, seed, many):
    """Some sets of wishes, single ones and pairs first."""
    chance = random.Random(seed)
    yield ()
    arrows = look.arrows()
    yield from ((arrow,) for arrow in arrows)
    for _ in range(many):
        ties = [tie for tie in look.ties if chance.random() < chance.choice((0.2, 0.4, 0.7))]
        wishes = [tie if chance.random() < 0.5 else tie[::-1] for tie in ties]
        chance.shuffle(wishes)
        yield tuple(wishes)


def own_forced_ring(look, wishes, chains):
    """True if the chains are a forced ring, straight from point 77 and the interface."""
    if len(chains) < 2:
        return False
    for path in chains:
        if path[0] not in wishes or not all(a == b or look.forces(a, b) for a, b in zip(path, path[1:])):
            return False
    ends = [path[-1] for path in chains]
    things = [a for a, b in ends]
    return len(set(things)) == len(things) and all(ends[i][1] == ends[(i + 1) % len(ends)][0] for i in range(len(ends)))


class AgainstEveryOrderTest(Case):

    def test_small_webs(self):
        for number, (told, orders) in enumerate(webs_with_orders()):
            b, look = Behind(Web(*told)), Look(*told)
            for wishes in some_wishes(look, number, 6):
                having = [arrows for arrows in orders if set(wishes) <= set(arrows)]
                self.look_at(b, look, having, wishes)

    def look_at(self, b, look, having, wishes):
        self.same(count_held(b, wishes[::-1]), len(having))
        passed = [list(wish) for wish in wishes]
        if having:
            numbers = sorted((b.number_of(Order(look.size, arrows)), arrows) for arrows in having)
            self.same(held(b, wishes).arrows, numbers[0][1])
            self.same(held(b, passed, last=False).arrows, numbers[0][1])
            self.same(held(b, passed, last=True).arrows, numbers[-1][1])
            self.same(settled(b, passed), tuple(sorted(set.intersection(*[set(arrows) for arrows in having]))))
            self.same(forced_ring(b, passed), None)
        else:
            self.same((held(b, passed), held(b, wishes, last=True), settled(b, wishes)), (None, None, None))
            chains = forced_ring(b, passed)
            self.assertIs(chains.__class__, tuple)
            self.same(chains, tuple(tuple((a, c) for a, c in path) for path in chains))
            self.assertTrue(own_forced_ring(look, wishes, chains))
            self.same(is_forced_ring(b.web, passed, chains), True)

    def test_all_arrows(self):
        for told, orders in webs_with_orders():
            b = Behind(Web(*told))
            for arrows in orders[::4]:
                p = Order(told[0], arrows)
                self.assertTrue(held(b, arrows) == p and held(b, arrows, last=True) == p)
                self.same((count_held(b, p.arrows), settled(b, arrows)), (1, arrows))

    def test_pins(self):
        """Arrows of an order are a pin exactly if one order holds them, and exactly if they settle all its arrows."""
        for number, (told, orders) in enumerate(webs_with_orders()):
            b = Behind(Web(*told))
            for arrows in orders[::7]:
                for many in range(min(len(arrows), 3) + 1):
                    for wishes in list(combinations(arrows, many))[:12]:
                        alone = is_pin(b, Order(told[0], arrows), wishes)
                        self.same(count_held(b, wishes) == 1, alone)
                        self.same(settled(b, wishes) == arrows, alone)

    def test_walks_inside(self):
        """From each order that holds the wishes flips of loose colours lead to each other one without leaving them."""
        for number, (told, orders) in enumerate(webs_with_orders()):
            colours = Look(*told).colours()
            for wishes in list(some_wishes(Look(*told), number, 2))[-2:]:
                having = [arrows for arrows in orders if set(wishes) <= set(arrows)]
                if having:
                    met, waiting = {having[0]}, [having[0]]
                    while waiting:
                        arrows = waiting.pop()
                        steps = [other for other in having if len(own_differing(colours, arrows, other)) == 1]
                        waiting += [other for other in steps if other not in met]
                        met |= set(steps)
                    self.assertEqual(met, set(having))


class KnownTest(Case):

    def test_none_at_all(self):
        for told in (PATH, HAT, MIXED, (1, ()), (40, ())):
            b = Behind(Web(*told))
            for wishes in ((), []):
                self.assertTrue(held(b, wishes) == b.at(0) and held(b, wishes, last=True) == b.at(b.many - 1))
                self.same((count_held(b, wishes), settled(b, wishes), forced_ring(b, wishes)), (b.many, (), None))
        self.same(count_held(Behind(Web.full(40)), ()), factorial(40))

    def test_half_have_one_wish(self):
        for told, orders in webs_with_orders():
            b = Behind(Web(*told))
            for arrow in Look(*told).arrows():
                self.same(2 * count_held(b, [arrow]), len(orders))

    def test_rings_at_full_knots(self):
        b = Behind(Web.full(12))
        wishes = [(a, (a + 1) % 12) for a in range(12)]
        self.same((held(b, wishes), count_held(b, wishes)), (None, 0))
        self.same(len(forced_ring(b, wishes)), 12)
        for place in range(12):
            self.same(forced_ring(b, wishes[:place] + wishes[place + 1:]), None)
            self.same(count_held(b, wishes[:place] + wishes[place + 1:]), 1)
        # One side of the ring has several things, so its arrows need chains.
        b = Behind(Web(3) & Web(2) & Web(1))
        wishes = [(1, 4), (3, 5), (5, 2)]
        chains = forced_ring(b, wishes)
        self.same(is_forced_ring(b.web, wishes, chains), True)
        self.same(len(chains), 3)
        # Further wishes stand behind the ring and beside it.
        b = Behind(Web.full(8))
        wishes = [(3, 4), (4, 5), (5, 3), (0, 1), (5, 6), (6, 7), (2, 3)]
        self.same(sorted(path[-1] for path in forced_ring(b, wishes)), [(3, 4), (4, 5), (5, 3)])

    def test_rings_at_firm_knots(self):
        b = Behind(Web(*PATH))
        chains = forced_ring(b, [(0, 1), (3, 2)])
        self.same((len(chains), is_forced_ring(b.web, [(0, 1), (3, 2)], chains)), (2, True))
        path = Behind(Web(40, [(a, a + 1) for a in range(39)]))
        wishes = [(0, 1), (39, 38)]
        self.same((held(path, wishes[:1]) == path.at(0), held(path, wishes[1:]) == path.at(1)), (True, True))
        chains = forced_ring(path, wishes)
        self.same(is_forced_ring(path.web, wishes, chains), True)

    def test_few_of_them_are_barred(self):
        """Barred wishes have as few as K that are, K the greatest of 2 and the children of the full knots."""
        for number, (told, orders) in enumerate(webs_with_orders()):
            look = Look(*told)
            most = max([2] + [len(look.children(lot)) for lot in look.knots() if look.kind(lot) == "full"])
            for wishes in some_wishes(look, number, 5):
                if len(wishes) <= 8 and not any(set(wishes) <= set(arrows) for arrows in orders):
                    few = [some for some in combinations(wishes, min(most, len(wishes)))
                           if not any(set(some) <= set(arrows) for arrows in orders)]
                    self.assertTrue(few)

    def test_deep_webs(self):
        for told in nested_webs(26, 6, 40):
            b = Behind(Web(*told))
            p = b.at(b.many // 3)
            wishes = p.arrows[::5]
            first, last = held(b, wishes), held(b, wishes, last=True)
            self.assertTrue(all(wish in first and wish in last for wish in wishes))
            self.assertLessEqual(b.number_of(first), b.number_of(p))
            self.assertLessEqual(b.number_of(p), b.number_of(last))
            found = settled(b, wishes)
            self.assertTrue(set(wishes) <= set(found) <= set(p.arrows))
            for arrow in p.arrows[::17]:
                if arrow not in found:
                    self.assertTrue(set(wishes) <= set(held(b, list(wishes) + [arrow[::-1]]).arrows))


class IsForcedRingTest(Case):

    RING = [[(3, 2)], [(0, 1), (2, 1), (2, 3)]]
    WISHES = [(0, 1), (3, 2)]

    def test_good(self):
        w = Web(*HAT)
        for chains in (self.RING, tuple(tuple(path) for path in self.RING), self.RING[::-1],
                       [[[3, 2], (3, 2)], self.RING[1]]):
            self.same(is_forced_ring(w, self.WISHES, chains), True)
        self.same(is_forced_ring(w, [[3, 2], [0, 1]], self.RING), True)

    def test_spoilt(self):
        w = Web(*HAT)
        first, second = self.RING
        for chains in ([first], [second], [first, first], [first, second, first], [first, second, first, second],
                       [first, second[:2]], [first, second[1:]], [first, second + [(1, 2)]], [first, []], [(), second],
                       [[(2, 3)], second], [first, [(0, 1), (2, 3)]], [first, [(0, 1), (1, 2), (2, 3)]],
                       [first, second[:2] + [(2, 3, 1)]], [first, second[:2] + [(2, True)]]):
            self.same(is_forced_ring(w, self.WISHES, chains), False)
        # The chains are good, but one of them begins with no wish.
        self.same(is_forced_ring(w, [(0, 1), (1, 2)], self.RING), False)
        self.same(is_forced_ring(w, [(2, 3), (0, 4)], self.RING), False)
        self.same(is_forced_ring(w, (), self.RING), False)
        self.same(is_forced_ring(w, (), ()), False)

    def test_several_from_one_wish(self):
        w = Web(6, [(a, b) for a in (0, 1) for b in (2, 3, 4, 5)] + [(a, b) for a in (2, 3) for b in (4, 5)])
        wishes = [(0, 2), (2, 4), (5, 1)]
        chains = forced_ring(Behind(w), wishes)
        self.same(is_forced_ring(w, wishes, chains), True)
        # Round twice by other things of the same children: six different things.
        paths = [[(0, 2)], [(2, 4)], [(5, 1), (4, 1)], [(0, 2), (1, 2), (1, 3)], [(2, 4), (3, 4), (3, 5)],
                 [(5, 1), (5, 0)]]
        self.same(all(is_chain(w, path) for path in paths), True)
        self.same(is_forced_ring(w, wishes, paths), True)
        self.same(is_forced_ring(w, wishes, paths[:3] + paths[:3]), False)

    def test_other_values(self):
        w = Web(*HAT)
        for value in strange_wholes() + [(), [], ((),), [None, None], [0, 1], ["", ""], iter(self.RING), w]:
            self.same(is_forced_ring(w, self.WISHES, value), False)
        for value in strange_wholes():
            self.same(is_forced_ring(w, self.WISHES, [self.RING[0], value]), False)
        for value in strange_pairs(5):
            self.same(is_forced_ring(w, self.WISHES, [self.RING[0], [value]]), False)

    def test_against_an_own_look(self):
        chance = random.Random(9)
        for told in (PATH, HAT, FIVE, (3, ((0, 1), (0, 2), (1, 2))), (5, NET[1][:4])):
            w, look = Web(*told), Look(*told)
            arrows = look.arrows()
            for _ in range(150):
                wishes = [chance.choice((tie, tie[::-1])) for tie in look.ties if chance.random() < 0.6]
                chains = [self.some_path(look, chance.choice(wishes or arrows), chance)
                          for _ in range(chance.choice((2, 2, 3)))]
                self.same(is_forced_ring(w, wishes, chains), own_forced_ring(look, wishes, chains))

    def some_path(self, look, arrow, chance):
        path = [arrow]
        while chance.random() < 0.6 and look.forced(path[-1]):
            path.append(chance.choice(look.forced(path[-1])))
        return path

    def test_webs_with_no_orders(self):
        w = Web(*FIVE)
        self.same(is_forced_ring(w, [(0, 1)], [[(0, 1)], [(0, 1), (2, 1), (2, 3), (4, 3), (4, 0), (1, 0)]]), True)
        self.same(is_forced_ring(w, [(0, 1)], [[(0, 1)], [(0, 1), (2, 1), (2, 3), (4, 3), (4, 0)]]), False)
        self.same(is_forced_ring(w, [(0, 1)], [[(0, 1)]]), False)

    def test_errors_come_first(self):
        w = Web(*HAT)
        self.told(BadPair, {"place": -1}, is_forced_ring, w, None, None)
        self.told(BadPair, {"place": 0}, is_forced_ring, w, [(0, 5)], 0)
        self.told(NotTied, {"first": 2, "second": 0}, is_forced_ring, w, [(3, 1), (2, 0)], [])


class ErrorsTest(Case):

    def calls(self):
        b = Behind(Web(*PATH))
        return [lambda wishes, call=call: call(b, wishes) for call in (held, forced_ring, count_held, settled)] + [
            lambda wishes: held(b, wishes, last=True), lambda wishes: is_forced_ring(b.web, wishes, ())]

    def test_pairs(self):
        for call in self.calls():
            for value in strange_wholes():
                self.told(BadPair, {"place": -1}, call, value)
            for value in strange_pairs(4):
                self.told(BadPair, {"place": 0}, call, [value])
                self.told(BadPair, {"place": 1}, call, ((0, 2), value))
            self.told(BadPair, {"place": 1}, call, [(0, 1), (1, 0)])
            self.told(BadPair, {"place": 2}, call, [(0, 3), (0, 1), [0, 1]])

    def test_least_that_is_not_tied(self):
        for call in self.calls():
            for wishes, pair in (([(2, 0)], (2, 0)), ([(3, 1), [2, 0], (0, 1)], (2, 0)), ([(3, 0), (1, 3)], (1, 3)),
                                 (((1, 2), (3, 0)), (3, 0)), ([(0, 3), (2, 0), (3, 1)], (0, 3))):
                self.told(NotTied, {"first": pair[0], "second": pair[1]}, call, wishes)

    def test_arguments_stay(self):
        b, wishes = Behind(Web(*HAT)), [[4, 0], [1, 0]]
        found = held(b, wishes), settled(b, wishes), count_held(b, wishes), forced_ring(b, wishes)
        self.assertEqual(wishes, [[4, 0], [1, 0]])
        wishes[0][0] = 3
        self.assertTrue(found[0].has(4, 0) and (4, 0) in found[1])


class BoundsTest(Case):

    def test_count_held(self):
        b = Behind(Web.full(12))
        self.same(count_held(b, [(0, 1), (0, 2)]), factorial(12) // 3)
        for w in (Web.full(13), Web.full(40), Web.full(13) | Web(2)):
            b = Behind(w)
            self.same(count_held(b, ()), b.many)
            self.told(TooMany, {"name": "children"}, count_held, b, [(0, 1)])
            self.told(TooMany, {"name": "children"}, count_held, b, [(0, 1), (1, 2), (2, 0)])
            self.told(BadPair, {"place": 1}, count_held, b, [(0, 1), (1, 0)])
            self.assertTrue(held(b, [(1, 0)]).has(1, 0))
            self.same(len(settled(b, [(0, 1), (1, 2)])), 3)
        self.told(NotTied, {"first": 13, "second": 14}, count_held, Behind(FULL13 | Web(2)), [(13, 14), (0, 1)])

    def test_where_the_wishes_part(self):
        # A full knot of 13 children does not matter as long as no wish parts there.
        b = Behind(FULL13 | Web(*PATH))
        self.same(count_held(b, [(15, 14)]), factorial(13))
        self.told(TooMany, {"name": "children"}, count_held, b, [(14, 15), (3, 2)])
        # Barred at the firm knot, and still too many children at the full one.
        self.same(count_held(b, [(13, 14), (16, 15)]), 0)
        self.told(TooMany, {"name": "children"}, count_held, b, [(13, 14), (16, 15), (2, 3)])
        # A firm knot may have any number of children.
        path = Behind(Web(40, [(a, a + 1) for a in range(39)]))
        self.same(count_held(path, [(0, 1), (2, 1)]), 1)


class RowCountTest(Case):

    def test_against_every_row(self):
        chance = random.Random(11)
        for many in range(1, 6):
            rows = list(permutations(range(many)))
            for _ in range(40):
                pairs = [chance.choice((pair, pair[::-1])) for pair in combinations(range(many), 2)
                         if chance.random() < 0.4]
                want = sum(all(row.index(i) < row.index(j) for i, j in pairs) for row in rows)
                self.same(row_count(many, pairs), want)
                self.same(row_count(many, tuple(list(pair) for pair in pairs)), want)

    def test_known(self):
        self.same([row_count(many, ()) for many in range(1, 13)], [factorial(many) for many in range(1, 13)])
        self.same(row_count(12, [(a, a + 1) for a in range(11)]), 1)
        self.same(row_count(12, [(a, a + 1) for a in range(11)] + [(11, 0)]), 0)
        self.same(row_count(3, [(0, 1), (1, 2), (2, 0)]), 0)
        self.same(row_count(12, [(2 * a, 2 * a + 1) for a in range(6)]), factorial(12) // 64)

    def test_errors(self):
        for value in [thing for thing in strange_things(12) if thing != 12] + [0, 1.0]:
            self.told(BadNumber, {"name": "many"}, row_count, value, ())
        self.told(BadNumber, {"name": "many"}, row_count, 0, None)
        for value in strange_wholes():
            self.told(BadPair, {"place": -1}, row_count, 3, value)
        for value in strange_pairs(3):
            self.told(BadPair, {"place": 1}, row_count, 3, ((0, 2), value))
        self.told(BadPair, {"place": 1}, row_count, 3, [(0, 1), (1, 0)])
        self.told(BadPair, {"place": 1}, row_count, 3, [(0, 1), (0, 1)])
        self.told(BadPair, {"place": 0}, row_count, 1, [(0, 1)])


class SettledTest(Case):

    def test_least_closed_set(self):
        """The settled arrows are the least closed set with the wishes and all that its arrows force."""
        for number, (told, orders) in enumerate(webs_with_orders()):
            look = Look(*told)
            for wishes in list(some_wishes(look, number + 500, 3))[-4:]:
                if any(set(wishes) <= set(arrows) for arrows in orders):
                    found = set(wishes)
                    while True:
                        more = {other for arrow in found for other in look.forced(arrow)}
                        more |= {(a, d) for a, b in found for c, d in found if b == c}
                        if more <= found:
                            break
                        found |= more
                    self.same(settled(Behind(Web(*told)), wishes), tuple(sorted(found)))

    def test_classes(self):
        b = Behind(Web(*MIXED))
        self.same(settled(b, [(3, 1)]), class_of(b.web, (3, 1)))
        self.same(settled(b, [(1, 3), (6, 2)]), tuple(sorted(class_of(b.web, (1, 3)) + class_of(b.web, (6, 0)))))
        b = Behind(Web.full(4))
        self.same(settled(b, [(3, 0), (0, 2)]), ((0, 2), (3, 0), (3, 2)))
        p = asked(b, b.at(0), (3, 0))
        self.same(settled(b, turned_back(p.arrows)), (~p).arrows)


if __name__ == "__main__":
    unittest.main()
