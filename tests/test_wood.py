"""The wood: points 33 to 37."""

import unittest
from itertools import combinations, permutations

from ordersbehind.errors import BadNumber, BadThing
from ordersbehind.parts import lap, parts
from ordersbehind.webs import Web
from ordersbehind.wood import Knot, Wood, count_parts, quotient
from tests.case import Case, strange_things, strange_wholes
from tests.plainly import FIVE, HAT, LONE, MIXED, PATH, Look, every_web, middling_webs, nested_webs, small_webs

OTHER = {"free": "full", "full": "free", "firm": "firm"}


def strange_numbers(many):
    """Values that are no number of a knot, if there are so many knots."""
    return [True, False, -1, many, many + 1, 0.0, 1.0, "0", None, (0,), [0], 10 ** 30]


def told_knots(x):
    return [(knot.number, knot.lot, knot.kind, knot.children, knot.leaders()) for knot in x.knots]


class KnotsTest(Case):

    def look_at(self, told):
        x, look = Wood(Web(*told)), Look(*told)
        lots = look.strong()
        knots = [lot for lot in lots if len(lot) > 1]
        want = []
        for number, lot in enumerate(knots):
            children = tuple(look.children(lot))
            want.append((number, lot, look.kind(lot), children, tuple(child[0] for child in children)))
        self.same(told_knots(x), want)
        self.same(x.lots(), tuple(lots))

    def test_against_own_look(self):
        for told in middling_webs():
            self.look_at(told)

    def test_all_of_five_things(self):
        for told in list(every_web(5))[::5]:
            self.look_at(told)

    def test_attributes(self):
        w = Web(*MIXED)
        x = Wood(w)
        self.assertIs(x.web, w)
        self.assertIs(x.knots.__class__, tuple)
        self.assertTrue(all(isinstance(knot, Knot) for knot in x.knots))
        self.same([knot.kind for knot in x.knots], ["full", "firm", "full", "free"])
        self.same([knot.lot for knot in x.knots], [tuple(range(7)), tuple(range(6)), (1, 2), (4, 5)])

    def test_class_values(self):
        self.same((Wood.FREE, Wood.FULL, Wood.FIRM), ("free", "full", "firm"))
        self.same(Wood.kinds(), ("free", "full", "firm"))
        self.same(Wood(Web(1)).kinds(), ("free", "full", "firm"))
        self.assertIsInstance(vars(Wood)["kinds"], staticmethod)
        self.assertIsInstance(vars(Wood)["height"], property)

    def test_one_thing(self):
        x = Wood(Web(1))
        self.same((x.knots, len(x), x.lots(), x.height, list(x), x.knots_over(0)), ((), 0, ((0,),), 0, [], ()))

    def test_numbering(self):
        w = Web(9, [(7, 8), (0, 6), (1, 5)]) | Web.full(3)
        self.same([knot.lot for knot in Wood(w).knots],
                  [tuple(range(12)), (9, 10, 11), (0, 6), (1, 5), (7, 8)])

    def test_child(self):
        for told in middling_webs():
            for knot in Wood(Web(*told)).knots:
                for thing in range(told[0]):
                    if thing in knot.lot:
                        at = knot.child(thing)
                        self.assertIn(thing, knot.children[at])
                        self.assertIs(at.__class__, int)
                    else:
                        self.told(BadThing, {"name": "thing"}, knot.child, thing)
                for value in strange_things(told[0]):
                    self.told(BadThing, {"name": "thing"}, knot.child, value)

    def test_laws_of_knots(self):
        for told in middling_webs():
            w = Web(*told)
            knots = Wood(w).knots
            self.assertLessEqual(len(knots), told[0] - 1)
            for knot in knots:
                self.assertGreaterEqual(len(knot.children), 4 if knot.kind == "firm" else 2)
                self.assertEqual(sorted(thing for child in knot.children for thing in child), list(knot.lot))
                if knot.kind == "free":
                    self.assertEqual(len(w.on(knot.lot).pieces()), len(knot.children))
                if knot.kind == "full":
                    self.assertEqual(len((~w).on(knot.lot).pieces()), len(knot.children))
            for one, other in combinations(Wood(w).lots(), 2):
                self.assertFalse(lap(one, other))

    def test_contrary(self):
        for told in middling_webs():
            x, y = Wood(Web(*told)), Wood(~Web(*told))
            self.same(y.lots(), x.lots())
            self.same([knot.kind for knot in y.knots], [OTHER[knot.kind] for knot in x.knots])
            self.same([knot.children for knot in y.knots], [knot.children for knot in x.knots])


class LookingTest(Case):

    def test_parting_and_knots_over(self):
        for told in middling_webs():
            x = Wood(Web(*told))
            for a in range(told[0]):
                over = sorted((knot for knot in x.knots if a in knot.lot), key=lambda knot: len(knot.lot))
                found = x.knots_over(a)
                self.assertIs(found.__class__, tuple)
                self.same([knot.number for knot in found], [knot.number for knot in over])
                self.assertTrue(all(knot is x.knots[knot.number] for knot in found))
                for b in range(told[0]):
                    if a != b:
                        knot = x.parting(a, b)
                        self.assertIs(knot, x.knots[knot.number])
                        self.assertIs(knot, [one for one in over if b in one.lot][0])

    def test_parting_errors(self):
        x = Wood(Web(3))
        for value in strange_things(3):
            self.told(BadThing, {"name": "first"}, x.parting, value, 0)
            self.told(BadThing, {"name": "first"}, x.parting, value, value)
            self.told(BadThing, {"name": "second"}, x.parting, 0, value)
            self.told(BadThing, {"name": "thing"}, x.knots_over, value)
        for thing in range(3):
            self.told(BadThing, {"name": "second"}, x.parting, thing, thing)
        self.told(BadThing, {"name": "second"}, Wood(Web(1)).parting, 0, 0)

    def test_parent(self):
        for told in middling_webs():
            x = Wood(Web(*told))
            for knot in x.knots:
                around = [other for other in x.knots if set(other.lot) > set(knot.lot)]
                want = min(around, key=lambda other: len(other.lot)).number if around else None
                self.same(x.parent(knot.number), want)
            for value in strange_numbers(len(x.knots)):
                self.told(BadNumber, {"name": "number"}, x.parent, value)
        self.told(BadNumber, {"name": "number"}, Wood(Web(1)).parent, 0)

    def test_height(self):
        for told in middling_webs():
            x = Wood(Web(*told))
            self.same(x.height, max(sum(a in knot.lot for knot in x.knots) for a in range(told[0])))

    def test_len_and_iterating(self):
        for told in (PATH, HAT, MIXED, LONE):
            x = Wood(Web(*told))
            self.same(len(x), len(x.knots))
            self.assertTrue(all(one is other for one, other in zip(list(x), x.knots)))
            self.same(len(list(x)), len(x.knots))

    def test_in(self):
        for told in [PATH, FIVE, HAT] + list(small_webs())[::4]:
            x = Wood(Web(*told))
            lots = x.lots()
            for many in range(1, told[0] + 1):
                for lot in combinations(range(told[0]), many):
                    for row in permutations(lot):
                        self.same(row in x, lot in lots)
                        self.same(list(row) in x, lot in lots)

    def test_other_values_in(self):
        x = Wood(Web(3))
        for value in strange_wholes() + [(), [], (0, 0), (0, 1, 2, 0), [0, 0, 1], {0}, "0", (0, 1, 1)]:
            self.same(value in x, False)
        for value in strange_things(3):
            self.same([value] in x, False)
            self.same((0, 1, value) in x, False)
        for knot in x.knots:
            self.same(knot in x, False)
        self.same([0] in Wood(Web(1)), True)
        self.same((0, 0) in Wood(Web(1)), False)


class QuotientTest(Case):

    def test_quotient(self):
        for told in middling_webs():
            w = Web(*told)
            x = Wood(w)
            for knot in x.knots:
                q = quotient(x, knot.number)
                self.assertTrue(q == w.on([child[0] for child in knot.children]))
                for i, j in combinations(range(len(knot.children)), 2):
                    ties = {w.tied(a, b) for a in knot.children[i] for b in knot.children[j]}
                    self.assertEqual(ties, {q.tied(i, j)})
                if knot.kind == "firm":
                    self.assertEqual(len(Look(len(q), q.ties).parts()), len(q) + 1)
            for value in strange_numbers(len(x.knots)):
                self.told(BadNumber, {"name": "number"}, quotient, x, value)


class PartsOfWoodTest(Case):

    def test_count(self):
        for told in middling_webs():
            self.same(count_parts(Wood(Web(*told))), len(Look(*told).parts()))

    def test_count_large(self):
        path = Web(40, [(a, a + 1) for a in range(39)])
        self.same(count_parts(Wood(Web(40))), 2 ** 40 - 1)
        self.same(count_parts(Wood(Web.full(40))), 2 ** 40 - 1)
        self.same(count_parts(Wood(path)), 41)
        self.same(count_parts(Wood(Web(1))), 1)
        self.same(count_parts(Wood(Web(*PATH) | Web(36))), 40 + 1 + 2 ** 37 - 37 - 1)

    def test_parts_are_unions(self):
        for told in middling_webs():
            x = Wood(Web(*told))
            found = set(x.lots())
            for knot in x.knots:
                if knot.kind != "firm":
                    for many in range(2, len(knot.children)):
                        for some in combinations(knot.children, many):
                            found.add(tuple(sorted(thing for child in some for thing in child)))
            self.assertEqual(tuple(sorted(found)), parts(Web(*told)))


class LargeTest(Case):

    def test_forty_things(self):
        path = Web(40, [(a, a + 1) for a in range(39)])
        for w, kind in ((Web(40), "free"), (Web.full(40), "full"), (path, "firm"), (~path, "firm")):
            x = Wood(w)
            self.same(len(x), 1)
            self.same((x.knots[0].kind, x.knots[0].lot), (kind, tuple(range(40))))
            self.same(x.knots[0].children, tuple((thing,) for thing in range(40)))
            self.same(x.height, 1)

    def test_deep(self):
        w = Web(1)
        for step in range(39):
            w = w & Web(1) if step % 2 else w | Web(1)
        x = Wood(w)
        self.same((len(x), x.height, x.parent(38)), (39, 39, 37))
        self.same([knot.lot for knot in x.knots], [tuple(range(many)) for many in range(40, 1, -1)])
        self.same([knot.number for knot in x.knots_over(0)], list(range(38, -1, -1)))

    def test_nested(self):
        for told in nested_webs(11, 10, 40):
            w = Web(*told)
            x = Wood(w)
            for knot in x.knots:
                for child in knot.children:
                    self.assertTrue(child in x)
                    outside = [b for b in range(told[0]) if b not in child]
                    self.assertTrue(all(len({w.tied(a, b) for a in child}) == 1 for b in outside))
                if len(knot.children) < 7:
                    q = quotient(x, knot.number)
                    self.same(Look(len(q), q.ties).kind(tuple(range(len(q)))), knot.kind)


if __name__ == "__main__":
    unittest.main()
