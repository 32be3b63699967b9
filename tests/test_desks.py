"""The desk: points 196 to 203."""

import random
import unittest

from ordersbehind.behind import Behind
from ordersbehind.counts import has_orders, made_one
from ordersbehind.deeds import Asked, Deed, Fused, Out, Placed, Put
from ordersbehind.desks import Desk
from ordersbehind.errors import (BadDeed, BadLot, BadNumber, BadThing, BehindError, NoOrders, NotBehind, NothingDone,
                                 NotPart, NotTied, TooMany)
from ordersbehind.flips import differing, distance
from ordersbehind.grafts import back_row, graft, graft_order
from ordersbehind.growing import with_thing
from ordersbehind.majority import nearest
from ordersbehind.orders import Order, is_behind
from ordersbehind.rings import is_odd_ring
from ordersbehind.walks import asked
from ordersbehind.webs import Web
from tests.case import Case, strange_things, strange_wholes
from tests.plainly import FIVE, HAT, MIXED, PATH, Look, every_lot, middling_webs, nested_webs, orders_of

PATH4 = Web(*PATH)


def state(desk):
    return desk.web.size, desk.web.ties, desk.order.arrows, desk.history(), desk.many


def some_desks():
    for told in middling_webs():
        if told[0] <= 6 and has_orders(Web(*told)):
            b = Behind(Web(*told))
            for number in sorted({0, b.many // 2, b.many - 1}):
                yield Desk(b.web, order=b.at(number))


def own_deeds(chance, desk):
    """A deed by chance, good or bad."""
    size = desk.web.size
    many = chance.randrange(0, size + 1)
    lot = chance.sample(range(size), many)
    near = sorted(desk.web.near(chance.randrange(size)))
    parts = Look(size, desk.web.ties).parts() if size <= 7 else [(0,)]
    guest = Web(*chance.choice([(1, ()), (2, ()), (2, ((0, 1),)), PATH]))
    return chance.choice([Put(lot), Put(near), Out(chance.randrange(-1, size)), Asked(0, chance.randrange(size)),
                          Asked(*chance.choice(desk.web.ties or [(0, 0)])), Fused(lot), Fused(chance.choice(parts)),
                          Placed(chance.randrange(size), guest, Behind(guest).at(0)), Out(size - 1),
                          Placed(0, guest, Order(3))])


class MakingTest(Case):

    def test_first_order(self):
        for told in (PATH, HAT, MIXED, (1, ()), (3, ())):
            desk = Desk(Web(*told))
            self.assertTrue(desk.order == Behind(Web(*told)).at(0))
            self.same((desk.many, desk.history(), desk.number_told()), (0, (), 0))
        w, p = Web(*PATH), Order(4, [(1, 0), (1, 2), (3, 2)])
        desk = Desk(w, order=p)
        self.assertTrue(desk.web is w and desk.order is p)
        self.same(desk.number_told(), 1)

    def test_errors(self):
        error = self.told(NoOrders, {}, Desk, Web(*FIVE))
        self.same((is_odd_ring(Web(*FIVE), error.ring), len(error.ring)), (True, 5))
        self.told(NotBehind, {"first": 0, "second": 1}, Desk, PATH4, order=Order(4))
        self.told(NotBehind, {"first": -1, "second": -1}, Desk, PATH4, order=Order(3))
        self.told(NotBehind, {"first": 0, "second": 1}, Desk, Web(*FIVE), order=Order(5))
        with self.assertRaises(TypeError):
            Desk(PATH4, Order(4))

    def test_equal(self):
        p, q = Behind(PATH4).by_number()
        self.same((Desk(PATH4) == Desk(PATH4, order=p), Desk(PATH4) == Desk(PATH4, order=q)), (True, False))
        self.same((Desk(PATH4) == PATH4, Desk(PATH4) == None, Desk(Web(2)) == Desk(Web(3))), (False,) * 3)
        one, other = Desk(PATH4), Desk(PATH4)
        one.ask(0, 1)
        self.same((one == other, one.many, other.many), (True, 1, 0))


class PutTest(Case):

    def test_every_lot(self):
        for desk in list(some_desks())[::6]:
            web, order = desk.web, desk.order
            for lot in every_lot(web.size, least=0):
                whole = with_thing(web, lot)
                before = state(desk)
                if not has_orders(whole):
                    error = self.told(NoOrders, {}, desk.put, list(lot)[::-1])
                    self.same(is_odd_ring(whole, error.ring), True)
                    self.same(len(error.ring), Look(whole.size, whole.ties).least_ring(whole.ties))
                    self.assertIn(web.size, error.ring)
                    self.same(state(desk), before)
                    continue
                turned = desk.put(list(lot)[::-1])
                self.assertTrue(desk.web == whole and desk.order == nearest(order, whole))
                least = min(sum((b, a) in other for a, b in order.arrows)
                            for other in orders_of(whole.size, whole.ties)) if len(whole.ties) <= 9 else turned
                self.same(turned, least)
                alike = [lot in (web.near(a), tuple(sorted(web.near(a) + (a,)))) for a in range(web.size)]
                if len(lot) in (0, web.size) or any(alike):
                    self.same(turned, 0)
                self.same(desk.history(), ("put",))
                desk.out(web.size)
                self.assertTrue(desk.web == web)
                self.assertEqual(desk.order == order, turned == 0)
                self.same((desk.back(), desk.back(), state(desk)), ("out", "put", before))
                self.assertTrue(desk.web == web and desk.order == order)

    def test_errors(self):
        desk = Desk(PATH4)
        for value in strange_wholes():
            self.told(BadLot, {"place": -1}, desk.put, value)
        for value in strange_things(4):
            self.told(BadLot, {"place": 1}, desk.put, (2, value))
        self.told(BadLot, {"place": 2}, desk.put, [0, 1, 0])
        large = Desk(Web(40))
        self.told(BadNumber, {"name": "size"}, large.put, [])
        self.told(BadLot, {"place": 0}, large.put, [40])
        self.same((desk.many, large.many), (0, 0))


class OutTest(Case):

    def test_every_thing(self):
        for desk in list(some_desks())[::5]:
            before, web, order = state(desk), desk.web, desk.order
            for thing in range(web.size):
                if web.size == 1:
                    self.told(BadNumber, {"name": "size"}, desk.out, 0)
                    continue
                self.same(desk.out(thing), 0)
                self.assertTrue(desk.web == web.without(thing) and desk.order == order.without(thing))
                self.same((desk.history(), desk.back(), state(desk)), (("out",), "out", before))

    def test_errors(self):
        for value in strange_things(4):
            self.told(BadThing, {"name": "thing"}, Desk(PATH4).out, value)
        self.told(BadThing, {"name": "thing"}, Desk(Web(1)).out, 1)
        self.told(BadNumber, {"name": "size"}, Desk(Web(1)).out, 0)


class AskTest(Case):

    def test_every_arrow(self):
        for desk in list(some_desks())[::3]:
            before, b, order = state(desk), Behind(desk.web), desk.order
            every = [other for other in b.by_number()]
            for first, second in Look(b.web.size, b.web.ties).arrows()[::2]:
                turned = desk.ask(first, second)
                self.assertTrue(desk.web == b.web and desk.order == asked(b, order, (first, second)))
                self.same((desk.order.has(first, second), desk.history()), (True, ("asked",)))
                self.same(turned, sum((d, c) in desk.order for c, d in order.arrows))
                others = [other for other in every if other.has(first, second)]
                self.assertEqual(turned, min(sum((d, c) in other for c, d in order.arrows) for other in others))
                self.assertEqual(distance(b, order, desk.order), min(distance(b, order, other) for other in others))
                if order.has(first, second):
                    self.same((turned, desk.order == order), (0, True))
                self.same((desk.back(), state(desk)), ("asked", before))

    def test_enough_asks(self):
        """Point 202."""
        for told in [HAT, MIXED, (4, tuple((a, b) for a in range(4) for b in range(a + 1, 4)))]:
            b = Behind(Web(*told))
            for one, other in ((0, b.many - 1), (b.many // 3, 1), (b.many // 2, b.many // 5)):
                desk, goal = Desk(b.web, order=b.at(one)), b.at(other)
                most = distance(b, desk.order, goal)
                for _ in range(most):
                    # The asks of the arrows of those colours that are loose towards the other order.
                    left = differing(b, desk.order, goal)
                    if left:
                        near = min(left, key=lambda tie: distance(b, desk.order, asked(b, desk.order, tie if tie in goal
                                                                                       else tie[::-1])))
                        desk.ask(*(near if near in goal else near[::-1]))
                self.assertTrue(desk.order == goal)

    def test_errors(self):
        desk = Desk(PATH4)
        for value in strange_things(4):
            self.told(BadThing, {"name": "first"}, desk.ask, value, None)
            self.told(BadThing, {"name": "second"}, desk.ask, 1, value)
        self.told(BadThing, {"name": "second"}, desk.ask, 1, 1)
        self.told(NotTied, {"first": 3, "second": 0}, desk.ask, 3, 0)
        self.same(desk.many, 0)


class PutInTest(Case):

    def test_guests(self):
        guests = [(1, ()), (2, ()), (2, ((0, 1),)), PATH, (3, ((0, 1), (0, 2), (1, 2)))]
        for desk in list(some_desks())[::7]:
            before, web, order = state(desk), desk.web, desk.order
            for thing in range(web.size):
                for told in guests:
                    guest = Web(*told)
                    inner = Behind(guest).at(Behind(guest).many // 2)
                    self.same(desk.put_in(thing, guest, inner), 0)
                    self.assertTrue(desk.web == graft(web, thing, guest))
                    self.assertTrue(desk.order == graft_order(order, thing, inner))
                    self.same(desk.history(), ("placed",))
                    # Point 201: fusing the guest's things leads back, the thing being the last one.
                    self.same(desk.fuse(list(range(web.size - 1, desk.web.size))), 0)
                    row = [other - (other > thing) for other in range(web.size)]
                    row[thing] = web.size - 1
                    self.assertTrue(desk.web == web.renamed(row) and desk.order == order.renamed(row))
                    self.same((desk.back(), desk.back(), state(desk)), ("fused", "placed", before))

    def test_errors(self):
        desk, guest = Desk(PATH4), Web(2, [(0, 1)])
        for value in strange_things(4):
            self.told(BadThing, {"name": "thing"}, desk.put_in, value, Web(40), Order(1))
        self.told(BadNumber, {"name": "size"}, desk.put_in, 0, Web(38), Order(1))
        self.told(NotBehind, {"first": -1, "second": -1}, desk.put_in, 0, guest, Order(3))
        self.told(NotBehind, {"first": 0, "second": 1}, desk.put_in, 0, guest, Order(2))
        self.same(desk.many, 0)
        self.same((desk.put_in(3, Web(37), Order(37)), desk.web.size), (0, 40))


class FuseTest(Case):

    def test_every_lot(self):
        for desk in list(some_desks())[::4]:
            before, web, order = state(desk), desk.web, desk.order
            look = Look(web.size, web.ties)
            for lot in every_lot(web.size):
                if look.splitter(lot) is not None:
                    self.told(NotPart, {"thing": look.splitter(lot)}, desk.fuse, list(lot)[::-1])
                    self.same(state(desk), before)
                    continue
                self.same(desk.fuse(list(lot)[::-1]), 0)
                self.assertTrue(desk.web == made_one(web, lot))
                names = [other for other in range(web.size) if other not in lot] + [min(lot)]
                self.same(desk.order.arrows, tuple((i, j) for i in range(len(names)) for j in range(len(names))
                                                   if (names[i], names[j]) in order.arrows))
                self.same(is_behind(desk.order, desk.web), True)
                self.same((desk.history(), desk.back(), state(desk)), (("fused",), "fused", before))

    def test_back_row(self):
        web = Web(*MIXED)
        desk = Desk(web)
        desk.fuse([5, 4])
        desk.put_in(5, Web(2), Order(2))
        self.assertTrue(desk.web.renamed(back_row(7, (4, 5))) == web)

    def test_errors(self):
        desk = Desk(PATH4)
        for value in strange_wholes() + [(), []]:
            self.told(BadLot, {"place": -1}, desk.fuse, value)
        for value in strange_things(4):
            self.told(BadLot, {"place": 1}, desk.fuse, (2, value))
        self.told(NotPart, {"thing": 0}, desk.fuse, [3, 1])


class DoTest(Case):

    def test_each_deed(self):
        for deed, call in ((Put([2, 1]), lambda desk: desk.put([2, 1])), (Out(1), lambda desk: desk.out(1)),
                           (Asked(1, 0), lambda desk: desk.ask(1, 0)), (Fused([2]), lambda desk: desk.fuse([2])),
                           (Placed(3, PATH4, ~Behind(PATH4).at(0)),
                            lambda desk: desk.put_in(3, PATH4, ~Behind(PATH4).at(0)))):
            one, other = Desk(PATH4), Desk(PATH4)
            self.same(one.do(deed), call(other))
            self.same(state(one), state(other))
            self.same(one.history(), (deed.word(),))

    def test_bad_deeds(self):
        desk = Desk(PATH4)
        for value in strange_wholes() + [Deed(), desk, "put", Put, (), [Out(0)]]:
            self.told(BadDeed, {"place": 0}, desk.do, value)
        for call in (desk.do_all, desk.trial):
            for value in strange_wholes() + [Out(0), desk]:
                self.told(BadDeed, {"place": -1}, call, value)
            for value in strange_wholes() + [Deed(), desk, (), Put]:
                self.told(BadDeed, {"place": 2}, call, [Out(99), Asked(0, 1), value, None])
        self.same(state(desk), state(Desk(PATH4)))

    def test_errors_of_the_methods(self):
        desk = Desk(PATH4)
        self.told(BadLot, {"place": -1}, desk.do, Put(5))
        self.told(BadThing, {"name": "thing"}, desk.do, Out(True))
        self.told(BadThing, {"name": "second"}, desk.do, Asked(0, 0))
        self.told(NotTied, {"first": 0, "second": 2}, desk.do, Asked(0, 2))
        self.told(BadThing, {"name": "thing"}, desk.do, Placed(4, PATH4, Order(4)))
        self.told(NotPart, {"thing": 0}, desk.do, Fused([2, 1]))
        self.told(NoOrders, {}, desk.do, Put([0, 3]))
        self.same(state(desk), state(Desk(PATH4)))

    def test_all_or_nothing(self):
        desk = Desk(PATH4)
        desk.ask(1, 0)
        before, web, order = state(desk), desk.web, desk.order
        for deeds, error in (([Asked(0, 1), Out(0), Asked(0, 2)], NotTied), ((Put([]), Put((0, 3))), NoOrders),
                             ([Asked(0, 1), Put(None), Out(9)], BadLot), ([Out(0)] * 4, BadNumber),
                             ([Asked(0, 1)] * 200, TooMany)):
            for call in (desk.do_all, desk.trial):
                self.told(error, {}, call, deeds)
                self.same(state(desk), before)
                self.assertTrue(desk.web is web and desk.order is order)
        self.same(desk.do_all(()), ())
        found = desk.do_all([Asked(0, 1), Put([1, 2]), Out(0)])
        self.same((found, desk.history()), ((3, 0, 0), ("asked", "asked", "put", "out")))
        self.same([desk.back() for _ in range(4)], ["out", "put", "asked", "asked"])
        self.same(state(desk), state(Desk(PATH4)))

    def test_trial(self):
        desk = Desk(PATH4)
        desk.ask(1, 0)
        before = state(desk)
        deeds = [Put([2, 1]), Asked(0, 1), Placed(0, Web(2), Order(2)), Fused((5, 4)), Out(0)]
        other = desk.trial(deeds)
        self.same((state(desk), other.many, other.history()), (before, 0, ()))
        self.told(NothingDone, {}, other.back)
        again = Desk(desk.web, order=desk.order)
        again.do_all(deeds)
        self.assertTrue(other == again and other.__class__ is Desk)
        other.out(0)
        self.same(state(desk), before)
        self.assertTrue(desk.trial([]) == desk and desk.trial([]) is not desk)

    def test_kept_bound(self):
        desk = Desk(PATH4)
        for number in range(200):
            self.same(desk.ask(0, 1), 0)
        self.same((desk.many, desk.history()), (200, ("asked",) * 200))
        before = state(desk)
        for call in (lambda: desk.put(None), lambda: desk.out(99), lambda: desk.ask(None, None),
                     lambda: desk.put_in(99, Web(40), Order(3)), lambda: desk.fuse(()), lambda: desk.do(Put([0, 3])),
                     lambda: desk.do_all([Out(99)]), lambda: desk.trial([Asked(0, 1)])):
            self.told(TooMany, {"name": "deeds"}, call)
            self.same(state(desk), before)
        self.told(BadDeed, {"place": 0}, desk.do, None)
        self.told(BadDeed, {"place": 0}, desk.do_all, [None])
        self.same((desk.do_all([]), desk.trial([]).many), ((), 0))
        self.same((desk.back(), desk.many), ("asked", 199))
        self.told(TooMany, {"name": "deeds"}, desk.do_all, [Asked(0, 1), Asked(0, 1)])
        self.told(TooMany, {"name": "deeds"}, desk.trial, [Asked(0, 1), Asked(0, 1)])
        self.same((desk.do_all([Out(0)]), desk.many), ((0,), 200))

    def test_arguments_stay(self):
        near, deeds = [2, 1], [Put([2, 1]), Out(0)]
        desk = Desk(PATH4)
        desk.put(near), desk.do_all(deeds), desk.fuse([0])
        self.assertEqual((near, len(deeds)), ([2, 1], 2))
        history = desk.history()
        near.append(0)
        deeds.pop()
        desk.back()
        self.same(history, ("put", "put", "out", "fused"))
        self.assertTrue(PATH4 == Web(*PATH))


class LongRunTest(Case):

    def test_runs(self):
        """After every call, good or bad, the order is behind the web; taking back leads through all states."""
        for seed in range(6):
            chance = random.Random(seed)
            desk = Desk(Web(*chance.choice([PATH, HAT, (1, ()), (3, ())])))
            states, refused = [state(desk)[:3]], 0
            for _ in range(60):
                if desk.web.size > 9:
                    deed = Out(chance.randrange(desk.web.size))
                else:
                    deed = own_deeds(chance, desk)
                before = state(desk)
                try:
                    turned = desk.do(deed)
                except BehindError:
                    self.same(state(desk), before)
                    refused += 1
                else:
                    self.same((turned.__class__, desk.history()[-1]), (int, deed.word()))
                    states.append(state(desk)[:3])
                self.same(is_behind(desk.order, desk.web), True)
                self.same(desk.number_told(), Behind(desk.web).number_of(desk.order))
            self.same((desk.many, refused > 0), (len(states) - 1, True))
            while desk.many:
                self.same(state(desk)[:3], states.pop())
                word = desk.history()[-1]
                self.same(desk.back(), word)
            self.same([state(desk)[:3]], states)
            self.told(NothingDone, {}, desk.back)

    def test_large(self):
        """Up to 40 things, one by one, and 200 deeds in all."""
        desk = Desk(Web(1))
        while desk.web.size < 40:
            desk.put([desk.web.size - 1])
        self.told(BadNumber, {"name": "size"}, desk.put, [])
        self.same((desk.many, len(desk.web.ties), is_behind(desk.order, desk.web)), (39, 39, True))
        while desk.many < 200:
            self.same(desk.ask(desk.many % 39, desk.many % 39 + 1) in (0, 39), True)
        while desk.many > 20:
            desk.back()
        self.same((desk.web.size, desk.history()), (21, ("put",) * 20))

    def test_state_alone_matters(self):
        """Point 203: desks with equal webs and orders do alike, whatever they keep."""
        one = Desk(Web(3))
        one.do_all([Put([0, 1]), Out(2), Placed(2, PATH4, Behind(PATH4).at(0)), Put([])])
        other = Desk(one.web, order=one.order)
        self.same((one == other, other == one, one.many, other.many), (True, True, 4, 0))
        for deed in (Put([2, 3]), Asked(2, 3), Asked(3, 2), Fused([6]), Out(0)):
            self.same(one.do(deed), other.do(deed))
            self.same((one == other, one.number_told()), (True, other.number_told()))

    def test_nested(self):
        for told in nested_webs(171, 20, 10):
            b = Behind(Web(*told))
            desk = Desk(b.web, order=b.at(b.many - 1))
            self.same(desk.number_told(), b.many - 1)
            for first, second in b.web.ties[::3]:
                desk.ask(second, first)
            self.same(is_behind(desk.order, desk.web), True)


if __name__ == "__main__":
    unittest.main()
