"""Spans: points 121, 123 and 130."""

import random
import unittest
from itertools import product

from ordersbehind.counts import has_orders
from ordersbehind.crowds import bare_four, is_bare_four
from ordersbehind.errors import BadSpan, NoSpans
from ordersbehind.orders import is_behind
from ordersbehind.rings import is_odd_ring
from ordersbehind.spans import first_come, is_spans, span_web, spans_of
from ordersbehind.webs import Web
from ordersbehind.wood import Wood, quotient
from tests.case import Case, strange_wholes
from tests.plainly import FIVE, NET, Look, all_pairs, every_web, middling_webs, some_webs
from tests.test_crowds import own_crowds, own_fours

# Three paths of three things from one thing: no bare four, but the contrary has no orders.
THREE_PATHS = (7, ((0, 1), (0, 2), (0, 3), (1, 4), (2, 5), (3, 6)))


def own_meet(one, other):
    return any(one[0] <= at <= one[1] for at in range(other[0], other[1] + 1))


def own_web(spans):
    return tuple(pair for pair in all_pairs(len(spans)) if own_meet(spans[pair[0]], spans[pair[1]]))


def own_come(spans):
    return tuple((a, b) for a in range(len(spans)) for b in range(len(spans)) if spans[a][1] < spans[b][0])


def some_spans(seed, count, most):
    chance = random.Random(seed)
    for _ in range(count):
        size = chance.randint(1, most)
        starts = [chance.randint(-3, 2 * size) for _ in range(size)]
        yield [(start, start + chance.choice((0, 0, 1, 1, 2, 3, 5))) for start in starts]


def span_webs():
    """Webs of spans, told by size and ties."""
    told = [(len(spans), own_web(spans)) for spans in some_spans(81, 60, 8)]
    told += [web for web in middling_webs() if is_spans(Web(*web))]
    return list(dict.fromkeys(told))


def holds_all(w):
    """The second half of point 123, straight from its words, for webs whose contrary has orders."""
    wood, look = Wood(w), Look(w.size, w.ties)
    for knot in wood.knots:
        if knot.kind == "full" and sum(len(child) > 1 for child in knot.children) > 1:
            return False
        if knot.kind == "firm":
            if own_fours(Look(len(knot.children), quotient(wood, knot.number).ties)):
                return False
            for child in knot.children:
                if any(not look.tied(a, b) for a in child for b in child if a < b):
                    near = [lot for lot in knot.children if lot != child and look.tied(lot[0], child[0])]
                    if not all(look.tied(one[0], other[0]) for one in near for other in near if one < other):
                        return False
                    if not all(look.tied(a, b) for lot in near for a in lot for b in lot if a < b):
                        return False
    return True


class SpanWebTest(Case):

    def test_every_few_spans(self):
        few = [(0, 0), (0, 1), (0, 2), (1, 1), (1, 2), (2, 2), (-1, 0), (3, 3)]
        for size in (1, 2, 3):
            for spans in product(few, repeat=size):
                w, p = span_web(list(spans)), first_come(spans)
                self.same((w.size, w.ties), (size, own_web(spans)))
                self.same((p.size, p.arrows), (size, own_come(spans)))

    def test_some_spans(self):
        for spans in some_spans(82, 150, 9):
            w, p = span_web([list(span) for span in spans]), first_come(tuple(spans))
            self.same((w.ties, p.arrows), (own_web(spans), own_come(spans)))
            self.same((is_behind(p, ~w), is_spans(w)), (True, True))

    def test_known(self):
        self.same(span_web([(0, 2), (2, 5)]).ties, ((0, 1),))
        self.same(span_web([(0, 2), (3, 5)]).ties, ())
        self.same(first_come([(0, 2), (2, 5), (3, 3)]).arrows, ((0, 2),))
        self.same(span_web([(4, 4), [4, 4], (3, 5)]).ties, ((0, 1), (0, 2), (1, 2)))
        self.same(first_come([(10 ** 40, 10 ** 40), (-10 ** 40, 0)]).arrows, ((1, 0),))
        self.same(len(span_web([(a, a) for a in range(40)]).ties), 0)
        self.same(len(first_come([(-a, -a) for a in range(40)]).arrows), 780)
        self.same(span_web([(5, 5)]).ties, ())

    def test_errors(self):
        for call in (span_web, first_come):
            for value in strange_wholes() + [(), [], [(0, 0)] * 41, ((0, 1),) * 50]:
                self.told(BadSpan, {"place": -1}, call, value)
            bad = [None, 0, "01", (), (0,), (0, 1, 2), (1, 0), [5, 4], (0, None), (True, 1), (0, True), (False, 0),
                   (0.0, 1), (0, 1.0), {0: 1, 1: 2}, {0, 1}, range(2), ("0", "1"), ((0,), (1,)), b"01"]
            for value in bad:
                self.told(BadSpan, {"place": 0}, call, [value])
                self.told(BadSpan, {"place": 1}, call, ((0, 1), value, (0, 1), None))

    def test_arguments_stay(self):
        spans = [[0, 2], [1, 3]]
        w, p = span_web(spans), first_come(spans)
        self.assertEqual(spans, [[0, 2], [1, 3]])
        spans[0][1] = 0
        spans.pop()
        self.same((w.ties, p.arrows), (((0, 1),), ()))


class SpansOfTest(Case):

    def test_webs_of_spans(self):
        for told in span_webs():
            w = Web(*told)
            found = spans_of(w)
            self.same(found.__class__, tuple)
            self.same(found, tuple((first, last) for first, last in found))
            self.assertEqual(own_web(found), told[1])
            self.assertTrue(span_web(found) == w)
            # Every crowd has one place, and each thing the places of the crowds that have it.
            many = len(own_crowds(Look(*told)))
            self.assertEqual(sorted({at for span in found for at in range(span[0], span[1] + 1)}), list(range(many)))
            for at in range(many):
                crowd = tuple(thing for thing, span in enumerate(found) if span[0] <= at <= span[1])
                self.assertIn(crowd, own_crowds(Look(*told)))

    def test_known(self):
        self.same(spans_of(Web(40)), tuple((a, a) for a in range(40)))
        self.same(spans_of(Web.full(40)), ((0, 0),) * 40)
        self.same(spans_of(Web(1)), ((0, 0),))
        self.same(spans_of(Web(3, [(0, 2), (1, 2)])), ((0, 0), (1, 1), (0, 1)))
        path = Web(40, [(a, a + 1) for a in range(39)])
        self.assertTrue(span_web(spans_of(path)) == path)

    def test_exactly_the_webs_of_spans(self):
        """By both halves of point 123, and by all rows of spans of small webs."""
        known = {}
        for size in range(1, 5):
            for spans in product([(a, b) for a in range(4) for b in range(a, 4)], repeat=size):
                known[size, own_web(spans)] = True
        for told in list(middling_webs()) + list(every_web(5))[::5] + list(some_webs(83, 60, (6, 7, 8))):
            w = Web(*told)
            want = not own_fours(Look(*told)) and has_orders(~w)
            if told[0] <= 4:
                self.assertEqual(want, told in known)
            if has_orders(~w):
                self.assertEqual(want, holds_all(w))
            self.same(is_spans(w), want)
            if want:
                self.assertTrue(span_web(spans_of(w)) == w)
            else:
                self.look_at_refusal(w, spans_of)

    def look_at_refusal(self, w, call):
        four = bare_four(w)
        if four is not None:
            self.told(NoSpans, {"four": min(own_fours(Look(w.size, w.ties))), "ring": ()}, call, w)
        else:
            error = self.told(NoSpans, {"four": ()}, call, w)
            look = Look(w.size, (~w).ties)
            self.same((is_odd_ring(~w, error.ring), error.ring.__class__), (True, tuple))
            self.same(len(error.ring), look.least_ring(look.ties))

    def test_refused(self):
        for told in (FIVE, NET, THREE_PATHS, (4, ((0, 1), (0, 3), (1, 2), (2, 3)))):
            self.same(is_spans(Web(*told)), is_spans(~~Web(*told)))
            if not is_spans(Web(*told)):
                self.look_at_refusal(Web(*told), spans_of)
        self.same([is_spans(Web(*told)) for told in (FIVE, NET, THREE_PATHS)], [False, False, False])
        self.look_at_refusal(Web(*THREE_PATHS), spans_of)
        error = self.told(NoSpans, {"four": ()}, spans_of, Web(*THREE_PATHS))
        self.same(is_bare_four(Web(*THREE_PATHS), error.four), False)
        self.told(NoSpans, {"four": (0, 20, 1, 21), "ring": ()}, spans_of, Web(20) & Web(20))


if __name__ == "__main__":
    unittest.main()
