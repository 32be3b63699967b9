"""Classes and colours: points 17, 19 and 21 to 25."""

import unittest
from itertools import combinations

from ordersbehind.classes import class_of, classes, colour_of, colours, is_odd, same_class, touched
from ordersbehind.errors import BadPair, NotTied
from ordersbehind.orders import Order
from ordersbehind.webs import Web
from tests.case import Case, strange_pairs
from tests.plainly import FIVE, HAT, LONE, MIXED, NET, Look, every_web, gap_of, laps, middling_webs, small_webs


def ends(pairs):
    return tuple(sorted({thing for pair in pairs for thing in pair}))


class ClassesTest(Case):

    def test_against_spreading(self):
        for told in middling_webs():
            w, look = Web(*told), Look(*told)
            known = look.classes()
            self.same(classes(w), known)
            for arrows in known:
                for arrow in arrows:
                    self.same(class_of(w, arrow), arrows)
            for one in look.arrows()[:4]:
                for other in look.arrows():
                    self.same(same_class(w, one, other), other in look.class_of(one))

    def test_all_of_five_things(self):
        for told in list(every_web(5))[::7]:
            self.same(classes(Web(*told)), Look(*told).classes())

    def test_lists_and_tuples(self):
        w = Web(3, [(0, 1), (1, 2)])
        self.same(class_of(w, [2, 1]), ((0, 1), (2, 1)))
        self.same(same_class(w, [2, 1], (0, 1)), True)
        self.same(same_class(w, (2, 1), [1, 0]), False)
        self.same(same_class(w, (2, 1), [2, 1]), True)

    def test_no_ties(self):
        self.same((classes(Web(3)), colours(Web(3))), ((), ()))

    def test_contraries(self):
        for told in small_webs():
            found = classes(Web(*told))
            for arrows in found:
                self.assertIn(tuple(sorted((b, a) for a, b in arrows)), found)

    def test_forty_things(self):
        full = Web.full(40)
        self.same(class_of(full, (7, 3)), ((7, 3),))
        self.same(len(classes(full)), 1560)
        self.same(len(colours(full)), 780)
        self.same(len(class_of(Web(40, [(0, thing) for thing in range(1, 40)]), (0, 9))), 39)


class ColoursTest(Case):

    def test_against_spreading(self):
        for told in middling_webs():
            w, look = Web(*told), Look(*told)
            self.same(colours(w), look.colours())
            for tie in look.ties:
                colour = look.colour_of(tie)
                for passed in (tie, tie[::-1], list(tie)):
                    self.same(colour_of(w, passed), colour)
                    self.same(is_odd(w, passed), look.is_odd(tie))
                    self.same(touched(w, passed), ends(colour))

    def test_odd(self):
        self.same(is_odd(Web(*FIVE), (3, 4)), True)
        self.same(is_odd(Web(*NET), [5, 2]), True)
        self.same(is_odd(Web(*HAT), (1, 2)), False)

    def test_errors(self):
        w = Web(3, [(0, 1)])
        for call in (class_of, colour_of, is_odd, touched):
            for value in strange_pairs(3):
                self.told(BadPair, {"place": 0}, call, w, value)
            for pair in ((1, 2), [2, 0], (0, 2)):
                self.told(NotTied, {"first": pair[0], "second": pair[1]}, call, w, pair)
        for value in strange_pairs(3):
            self.told(BadPair, {"place": 0}, same_class, w, value, (1, 2))
            self.told(BadPair, {"place": 0}, same_class, w, (1, 2), value)
        self.told(NotTied, {"first": 1, "second": 2}, same_class, w, (1, 2), (2, 0))
        self.told(NotTied, {"first": 2, "second": 0}, same_class, w, (1, 0), [2, 0])


class LawsTest(Case):

    def test_orders_have_whole_classes(self):
        for told in small_webs():
            for arrows in Look(*told).orders():
                for members in classes(Web(*told)):
                    self.assertIn(sum(arrow in arrows for arrow in members), (0, len(members)))

    def test_untouched_things(self):
        for told in middling_webs():
            w = Web(*told)
            for colour in colours(w):
                lot = ends(colour)
                for thing in range(told[0]):
                    if thing not in lot:
                        self.assertIn(sum(w.tied(thing, other) for other in lot), (0, len(lot)))
                self.assertEqual(Web(told[0], colour).on(lot).pieces(), (tuple(range(len(lot))),))

    def test_three_tied_things(self):
        for told in middling_webs():
            w, look = Web(*told), Look(*told)
            for a in range(told[0]):
                for b, c in look.arrows():
                    if a not in (b, c) and look.tied(a, b) and look.tied(a, c):
                        self.look_at_three(w, a, b, c)

    def look_at_three(self, w, a, b, c):
        members = class_of(w, (b, c))
        if (a, c) in members or (b, a) in members:
            return
        for x, y in members:
            self.assertTrue(same_class(w, (a, x), (a, b)))
            self.assertTrue(same_class(w, (a, y), (a, c)))

    def test_even_classes_are_orders(self):
        for told in middling_webs():
            w = Web(*told)
            for members in classes(w):
                if not is_odd(w, members[0]):
                    self.assertIsNone(gap_of(members))
                    self.same(Order(told[0], members).arrows, members)

    def test_lots_of_web_and_contrary(self):
        for told in middling_webs():
            w = Web(*told)
            other = [touched(~w, colour[0]) for colour in colours(~w)]
            for colour in colours(w):
                for lot in other:
                    self.assertFalse(laps(touched(w, colour[0]), lot))

    def test_sketches(self):
        self.same([len(colours(Web(*told))) for told in (FIVE, NET, HAT, LONE, MIXED)], [1, 1, 2, 2, 3])
        pairs = list(combinations(range(3), 2))
        self.same(colours(Web.full(3)), tuple((pair,) for pair in pairs))


if __name__ == "__main__":
    unittest.main()
