"""Webs in the place of a thing: points 166 to 174."""

import unittest
from math import factorial

from ordersbehind.behind import Behind
from ordersbehind.colourwood import count_colours, count_loose
from ordersbehind.counts import count_orders, has_orders, made_one
from ordersbehind.crowdrows import CrowdRows
from ordersbehind.errors import BadLot, BadNumber, BadThing, NotPart
from ordersbehind.fitting import count_fitting
from ordersbehind.flips import differing, distance
from ordersbehind.grafts import back_row, graft, graft_counts, graft_order, merged, part_order
from ordersbehind.lines import count_lines, words_below
from ordersbehind.orders import Order, is_behind, web_of
from ordersbehind.rings import is_odd_ring, odd_ring
from ordersbehind.spans import is_spans
from ordersbehind.turns import is_part_of
from ordersbehind.webs import Web
from ordersbehind.wood import Wood
from tests.case import Case, strange_things, strange_wholes
from tests.plainly import FIVE, HAT, NET, PATH, Look, all_pairs, every_lot, every_order, every_web, orders_of
from tests.test_turns import own_crossing

SMALL = [(1, ()), (2, ()), (2, ((0, 1),)), (3, ((0, 2),)), (3, ((0, 1), (1, 2))), (3, ()), (3, ((0, 1), (0, 2), (1, 2))),
         PATH, HAT, (4, ((0, 1), (2, 3))), (4, ((0, 2), (0, 3), (1, 2), (1, 3)))]


def grafts(odd=False):
    """A web, a thing of it and a guest, of every two of some webs."""
    told = SMALL + [FIVE] if odd else SMALL
    for one in told:
        for thing in range(one[0]):
            for guest in told:
                yield one, thing, guest


def new_name(size, thing, other):
    """What an outside thing is called in a graft."""
    return other - (other > thing)


def own_pairs(size, pairs, thing, guest_size, guest_pairs):
    """The pairs of the graft: every two things of it, as their own ones are joined."""
    origins = [(other, None) for other in range(size) if other != thing] + [(thing, a) for a in range(guest_size)]
    found = []
    for one, (a, inner) in enumerate(origins):
        for other, (b, inmost) in enumerate(origins):
            joined = (inner, inmost) in guest_pairs if a == b == thing else (a, b) in pairs
            if joined:
                found.append((one, other))
    return tuple(sorted(found))


def both_ways(pairs):
    return set(pairs) | {(b, a) for a, b in pairs}


def merging_knots(one, thing, guest):
    """The kind of the knots that merge and the numbers of their children, from looks at both webs."""
    if one[0] == 1 or guest[0] == 1:
        return "", 0, 0
    look, other = Look(*one), Look(*guest)
    knot = [lot for lot in look.knots() if thing in lot][-1]
    kind = look.kind(knot)
    if kind == "firm" or other.kind(other.things) != kind:
        return "", 0, 0
    return kind, len(look.children(knot)), len(other.children(other.things))


class GraftTest(Case):

    def test_against_the_words(self):
        for one, thing, guest in grafts(odd=True):
            w = graft(Web(*one), thing, Web(*guest))
            want = own_pairs(one[0], both_ways(one[1]), thing, guest[0], both_ways(guest[1]))
            self.same((w.size, w.ties), (one[0] - 1 + guest[0], tuple((a, b) for a, b in want if a < b)))

    def test_orders(self):
        for one, thing, guest in grafts():
            every, others = orders_of(*one), orders_of(*guest)
            whole = graft(Web(*one), thing, Web(*guest))
            for arrows in every[::3]:
                for more in others[::2]:
                    p = graft_order(Order(one[0], arrows), thing, Order(guest[0], more))
                    want = own_pairs(one[0], set(arrows), thing, guest[0], set(more))
                    self.same((p.size, p.arrows), (one[0] - 1 + guest[0], want))
                    self.same(is_behind(p, whole), True)

    def test_one_thing(self):
        w = Web(*PATH)
        self.same(graft(Web(1), 0, w).ties, w.ties)
        self.same(graft(w, 1, Web(1)).ties, w.renamed((0, 3, 1, 2)).ties)
        p = Order(4, [(0, 1), (2, 1), (2, 3)])
        self.same(graft_order(Order(1), 0, p).arrows, p.arrows)
        self.same(graft_order(p, 3, Order(1)).arrows, p.arrows)
        self.same((graft(Web(1), 0, Web(1)).size, merged(Web(1), 0, Web(1)), graft_counts(Web(1), 0, Web(1))),
                  (1, "", (1, 1, 1)))

    def test_sizes(self):
        self.same(graft(Web(20), 5, Web(21)).size, 40)
        self.same(graft_order(Order(40), 5, Order(1)).size, 40)
        self.same(graft_order(Order(1), 0, Order.along(tuple(range(40)))).size, 40)
        for call in (graft, graft_counts):
            self.told(BadNumber, {"name": "size"}, call, Web(20), 5, Web(22))
            self.told(BadNumber, {"name": "size"}, call, Web(40), 39, Web(2))
            self.told(BadThing, {"name": "thing"}, call, Web(20), 20, Web(22))
        self.told(BadNumber, {"name": "size"}, graft_order, Order(20), 5, Order(22))
        self.told(BadThing, {"name": "thing"}, graft_order, Order(20), -1, Order(22))
        self.same(merged(Web(30), 5, Web(30)), "free")
        self.same(graft_counts(Web.full(20), 3, Web.full(21)),
                  (factorial(40), factorial(40), factorial(20) * factorial(21)))

    def test_errors(self):
        for value in strange_things(3):
            for call in (graft, merged, graft_counts):
                self.told(BadThing, {"name": "thing"}, call, Web(3), value, Web(2))
            self.told(BadThing, {"name": "thing"}, graft_order, Order(3), value, Order(2))
            self.told(BadThing, {"name": "thing"}, merged, Web(3), value, Web(1))
        for value in strange_things(1):
            self.told(BadThing, {"name": "thing"}, merged, Web(1), value, Web(3))


class MergedTest(Case):

    def test_wood_of_the_graft(self):
        for one, thing, guest in grafts(odd=True):
            w, v = Web(*one), Web(*guest)
            kind, many, guests = merging_knots(one, thing, guest)
            self.same(merged(w, thing, v), kind)
            inside = tuple(range(w.size - 1, w.size - 1 + v.size))
            lots = []
            for lot in Wood(w).lots():
                outer = tuple(new_name(w.size, thing, other) for other in lot if other != thing)
                lots.append(tuple(sorted(outer + inside)) if thing in lot else outer)
            lots += [tuple(w.size - 1 + a for a in lot) for lot in Wood(v).lots()]
            if kind:
                lots = [lot for lot in lots if lot != inside]
            whole = Wood(graft(w, thing, v))
            self.assertEqual(set(whole.lots()), set(lots))
            if kind:
                knot = [one for one in whole.knots if set(inside) < set(one.lot)][-1]
                self.same((knot.kind, len(knot.children)), (kind, many - 1 + guests))

    def test_counts(self):
        for one, thing, guest in grafts(odd=True):
            w, v = Web(*one), Web(*guest)
            whole = graft(w, thing, v)
            kind, many, guests = merging_knots(one, thing, guest)
            over, under = 1, 1
            if kind == "full":
                over, under = factorial(many - 1 + guests), factorial(many) * factorial(guests)
            number = count_orders(w) * count_orders(v) * over // under
            self.same(graft_counts(w, thing, v), (number, over, under))
            self.same(count_orders(whole), number)
            self.same(has_orders(whole), has_orders(w) and has_orders(v))
            more = (many - 1) * (guests - 1) if kind == "full" else 0
            self.same(count_colours(Wood(whole)), count_colours(Wood(w)) + count_colours(Wood(v)) + more)
            self.same(count_loose(Wood(whole)), count_loose(Wood(w)) + count_loose(Wood(v)))

    def test_without_orders(self):
        w = Web(*FIVE) & Web(2)
        self.same(graft_counts(w, 5, Web.full(2)), (0, 1, 1))
        self.same(graft_counts(Web(*FIVE) & Web(1), 5, Web.full(3)), (0, 24, 12))
        self.same(graft_counts(Web.full(3), 0, Web(*FIVE) & Web.full(2)), (0, 120, 36))

    def test_listed_orders(self):
        """Point 169: which orders behind the graft come from a pair, and all do exactly if no full knots merge."""
        for one, thing, guest in grafts():
            if len(one[1]) + len(guest[1]) <= 6:
                w, v = Web(*one), Web(*guest)
                inside = tuple(range(w.size - 1, w.size - 1 + v.size))
                row = tuple(new_name(w.size, thing, other) if other != thing else w.size - 1
                            for other in range(w.size))
                made = {}
                for arrows in orders_of(*one):
                    for more in orders_of(*guest):
                        p, q = Order(w.size, arrows), Order(v.size, more)
                        made[graft_order(p, thing, q).arrows] = (p.renamed(row).arrows, q.arrows)
                self.same(len(made), count_orders(w) * count_orders(v))
                every = list(Behind(graft(w, thing, v)).by_number())
                for p in every:
                    self.assertEqual(p.arrows in made, is_part_of(p, inside))
                    if p.arrows in made:
                        outer, inner = part_order(p, inside)
                        self.same((outer.arrows, inner.arrows), made[p.arrows])
                self.assertEqual(len(made) == len(every), merged(w, thing, v) != "full")

    def test_rings(self):
        for one, thing, guest in grafts(odd=True):
            w, v = Web(*one), Web(*guest)
            ring = odd_ring(graft(w, thing, v))
            if ring is not None:
                if min(ring) >= w.size - 1:
                    self.same(is_odd_ring(v, [a - w.size + 1 for a in ring]), True)
                else:
                    names = [other for other in range(w.size) if other != thing] + [thing] * v.size
                    self.same(is_odd_ring(w, [names[a] for a in ring]), True)

    def test_lines(self):
        """Point 171."""
        for one, thing, guest in grafts():
            w, v = Web(*one), Web(*guest)
            p, q = Behind(w).at(0), Behind(v).at(0)
            words = words_below(p, [v.size if other == thing else 1 for other in range(w.size)])
            self.same(count_lines(graft_order(p, thing, q)), count_lines(q) * words)
            if merged(w, thing, v) != "full":
                self.same(count_fitting(graft(w, thing, v)), count_orders(w) * words * count_fitting(v))

    def test_differing(self):
        """Point 173."""
        for one, thing, guest in grafts():
            w, v = Web(*one), Web(*guest)
            b, c, d = Behind(w), Behind(v), Behind(graft(w, thing, v))
            if b.many <= 24 and c.many <= 24:
                p, p2, q, q2 = b.at(0), b.at(b.many // 2), c.at(c.many - 1), c.at(c.many // 3)
                kind, many, guests = merging_knots(one, thing, guest)
                total = distance(c, q, q2)
                for name in differing(b, p, p2):
                    knot = b.wood.knots_over(thing)[0]
                    lone = b.wood.parting(*name) is knot and (thing,) in [knot.children[knot.child(a)] for a in name]
                    total += guests if kind == "full" and lone else 1
                self.same(distance(d, graft_order(p, thing, q), graft_order(p2, thing, q2)), total)

    def test_spans(self):
        """Point 174."""
        for one, thing, guest in grafts(odd=True):
            w, v, look, other = Web(*one), Web(*guest), Look(*one), Look(*guest)
            near = [a for a in look.things if look.tied(a, thing)]
            tight = all(look.tied(a, b) for a in near for b in near if a < b)
            full = all(other.tied(a, b) for a, b in all_pairs(other.size))
            want = is_spans(w) and is_spans(v) and (full or tight)
            whole = graft(w, thing, v)
            self.same(is_spans(whole), want)
            if want:
                kind, many, guests = merging_knots(one, thing, guest)
                rows = CrowdRows(w).many * CrowdRows(v).many
                if kind == "free":
                    rows = rows * factorial(many - 1 + guests) // (factorial(many) * factorial(guests))
                self.same(CrowdRows(whole).many, rows)


class PartOrderTest(Case):

    def test_every_lot(self):
        for size in range(1, 5):
            for arrows in every_order(size):
                for lot in every_lot(size):
                    self.look_at(Order(size, arrows), lot)
        for told in (HAT, (6, ((0, 4), (0, 5), (1, 2), (1, 4), (1, 5), (2, 4), (2, 5), (4, 5)))):
            for arrows in orders_of(*told)[::2]:
                for lot in every_lot(told[0]):
                    self.look_at(Order(told[0], arrows), lot)

    def look_at(self, p, lot):
        thing = own_crossing(p.size, p.arrows, lot)
        if thing is not None:
            self.told(NotPart, {"thing": thing}, part_order, p, list(lot)[::-1])
            return
        found = part_order(p, list(lot)[::-1])
        self.same((found.__class__, len(found)), (tuple, 2))
        one, inside = found
        self.same((inside.size, inside.arrows), (len(lot), p.on(lot).arrows))
        outside = [other for other in range(p.size) if other not in lot]
        for least in lot:
            names = outside + [least]
            self.same(one.arrows, tuple((i, j) for i in range(len(names)) for j in range(len(names))
                                        if (names[i], names[j]) in p.arrows))
        # Point 172.
        row = back_row(p.size, list(lot)[::-1])
        back = graft_order(one, one.size - 1, inside)
        self.assertTrue(back.renamed(row) == p)
        w = web_of(p)
        self.assertTrue(graft(made_one(w, lot), len(outside), w.on(lot)).renamed(row) == w)
        self.assertTrue(web_of(one) == made_one(w, lot))

    def test_webs(self):
        for told in list(every_web(4)) + [HAT, FIVE, NET]:
            w, look = Web(*told), Look(*told)
            for lot in look.parts():
                one = made_one(w, lot)
                self.assertTrue(graft(one, one.size - 1, w.on(lot)).renamed(back_row(w.size, lot)) == w)

    def test_errors(self):
        p = Order(3, [(0, 1)])
        for value in strange_wholes() + [(), []]:
            self.told(BadLot, {"place": -1}, part_order, p, value)
            self.told(BadLot, {"place": -1}, back_row, 3, value)
        for value in strange_things(3):
            self.told(BadLot, {"place": 1}, part_order, p, (2, value))
            self.told(BadLot, {"place": 1}, back_row, 3, (2, value))
        self.told(BadLot, {"place": 2}, part_order, p, [0, 1, 0])
        self.told(NotPart, {"thing": 0}, part_order, p, [2, 1])
        for value in (0, 41, -1, True, False, None, 3.0, "3", (3,), 10 ** 30):
            self.told(BadNumber, {"name": "size"}, back_row, value, ())
        self.same((back_row(1, [0]), back_row(40, tuple(range(40))), back_row(4, (2, 0))),
                  ((0,), tuple(range(40)), (1, 3, 0, 2)))

    def test_argument_stays(self):
        lot = [1, 0]
        part_order(Order(3), lot), back_row(3, lot)
        self.assertEqual(lot, [1, 0])


if __name__ == "__main__":
    unittest.main()
