"""The examples of the interface, with the answers that stand there."""

import unittest

from ordersbehind.asking import Answerer, Asker, asks_at_most, least_asks
from ordersbehind.bars import bar, bars_of, is_bar
from ordersbehind.behind import Behind
from ordersbehind.bottoms import bottom_order, bottoms_in_all, count_bottoms, count_ends
from ordersbehind.carrying import carried
from ordersbehind.chains import chain
from ordersbehind.choices import choice_text, next_ways
from ordersbehind.classes import class_of, same_class, touched
from ordersbehind.colourwood import colour_place, count_loose, knot_colours
from ordersbehind.counts import share_of_parts
from ordersbehind.crowdrows import CrowdRows, both_ends, count_first
from ordersbehind.crowds import crowds
from ordersbehind.deeds import Asked, Out, Placed, Put, deed_text
from ordersbehind.desks import Desk
from ordersbehind.drawings import Drawings
from ordersbehind.errors import BadText, NoOrders, NoRows, NoSpans, NotLoose, NotTied
from ordersbehind.fitting import order_and_line
from ordersbehind.flips import distance, flip, loose
from ordersbehind.forcing import forced_by
from ordersbehind.grafts import back_row, graft, graft_counts, merged, part_order
from ordersbehind.growing import count_going, goes_on, grown, sides, with_thing
from ordersbehind.likeness import count_permutations, count_renamings, renaming
from ordersbehind.lines import jump_counts
from ordersbehind.listings import listing
from ordersbehind.majority import count_nearest, majority_of, nearest
from ordersbehind.middles import count_between, share_as_part
from ordersbehind.names import order_name, web_name
from ordersbehind.orders import Order
from ordersbehind.pins import is_pin
from ordersbehind.plain import all_behind, misfit, turned_by
from ordersbehind.rings import is_odd_ring, odd_ring, ring_chain
from ordersbehind.shares import both, middle_counts, together
from ordersbehind.spans import span_web, spans_of
from ordersbehind.texts import order_from
from ordersbehind.turns import crossing_thing
from ordersbehind.unbroken import strong_by_rows, unbroken_lots
from ordersbehind.unlike import permutation_table, unlike_orders
from ordersbehind.walks import asked, asked_cost
from ordersbehind.webs import Web
from ordersbehind.wishes import count_held, held, is_forced_ring, row_count, settled
from ordersbehind.wood import Wood, count_parts
from tests.case import Case

SIX = (6, [(0, 1), (1, 2), (2, 3), (0, 4), (1, 4), (2, 4), (3, 4)])
HAT = (5, SIX[1])


class ExamplesTest(Case):

    def test_webs(self):
        w = Web(4, [(2, 1), (0, 1), [3, 2]])
        self.same([w.ties, (~w).ties, w.near(1), w.without(1).pieces()],
                  [((0, 1), (1, 2), (2, 3)), ((0, 2), (0, 3), (1, 3)), (0, 2), ((0,), (1, 2))])

    def test_plain(self):
        w = Web(4, [(0, 1), (1, 2), (2, 3)])
        p, q = all_behind(w)
        self.same([p.arrows, q.arrows, misfit(w, [3, 2, 0, 1]), turned_by(w, (1, 0, 3, 2)) == q],
                  [((0, 1), (2, 1), (2, 3)), ((1, 0), (1, 2), (3, 2)), (3, 2, 1), True])

    def test_texts(self):
        self.told(BadText, {"line": 0}, order_from, "things 3\nbelow 1 2\nbelow 0 1")

    def test_forcing(self):
        w = Web(4, [(0, 1), (1, 2), (2, 3)])
        self.same([forced_by(w, (2, 1)), class_of(w, (3, 2)), chain(w, (0, 1), (2, 3)), touched(Web.full(3), (2, 0))],
                  [((0, 1), (2, 3)), ((1, 0), (1, 2), (3, 2)), ((0, 1), (2, 1), (2, 3)), (0, 2)])

    def test_rings(self):
        five = Web(5, [(0, 1), (1, 2), (2, 3), (3, 4), (4, 0)])
        net = Web(6, [(0, 1), (0, 2), (1, 2), (0, 3), (1, 4), (2, 5)])
        self.same([ring_chain(five, [0, 1, 2, 3, 4]), len(odd_ring(net)),
                   is_odd_ring(net, (3, 0, 1, 4, 1, 2, 5, 2, 0))],
                  [((0, 1), (2, 1), (2, 3), (4, 3), (4, 0), (1, 0)), 9, True])

    def test_classes(self):
        self.told(NotTied, {"first": 1, "second": 2}, same_class, Web(3, [(0, 1)]), (1, 2), (1, 0))

    def test_wood(self):
        x = Wood(Web(*SIX))
        self.same([x.lots()[:3], x.knots[0].kind, x.knots[1].children, x.knots[2].kind, x.knots[2].leaders()],
                  [((0, 1, 2, 3, 4, 5), (0, 1, 2, 3, 4), (0, 1, 2, 3)), "free", ((0, 1, 2, 3), (4,)), "firm",
                   (0, 1, 2, 3)])
        self.same([x.height, x.parent(2), x.parting(0, 4).number, [3, 1, 0, 2] in x, count_parts(x)],
                  [3, 1, 1, True, 9])

    def test_colourwood(self):
        x = Wood(Web(*SIX))
        self.same([knot_colours(x, 1), colour_place(x, (4, 2)), colour_place(x, (2, 1)), count_loose(x)],
                  [(((0, 4), (1, 4), (2, 4), (3, 4)),), (1, 0, 1), (2, -1, -1), 2])

    def test_behind(self):
        b = Behind(Web(*HAT))
        p = b.order_of([[1, 0], 0])
        self.same([b.many, b.places, p.arrows, b.number_of(p), b.ways_of(~p)],
                  [4, (0, 1), ((0, 1), (2, 1), (2, 3), (4, 0), (4, 1), (4, 2), (4, 3)), 2, ((0, 1), 1)])
        p, q = list(Behind(Web(3, [(0, 2), (1, 2)])).by_number())
        self.same([p.arrows, q.arrows], [((0, 2), (1, 2)), ((2, 0), (2, 1))])

    def test_choices(self):
        b = Behind(Web(*HAT))
        self.same([next_ways(b, [(0, 1), 1]), choice_text(b, ((1, 0), 0)), share_of_parts(Web.full(3), [2, 0])],
                  [((1, 0), 0), "0 1 2 3 4 full 1 0\n0 1 2 3 firm 0\n", (2, 2, 6, 4)])

    def test_flips(self):
        b = Behind(Web(*HAT))
        p = b.at(0)
        self.same([p.arrows, loose(b, p), flip(b, p, (3, 2)).arrows, distance(b, p, ~p)],
                  [((0, 1), (0, 4), (1, 4), (2, 1), (2, 3), (2, 4), (3, 4)), ((0, 1), (0, 4)),
                   ((0, 4), (1, 0), (1, 2), (1, 4), (2, 4), (3, 2), (3, 4)), 2])
        self.told(NotLoose, {"first": 0, "second": 2}, flip, Behind(Web.full(3)), Order.along([0, 1, 2]), [2, 0])

    def test_walks(self):
        b = Behind(Web(4, [(0, 2), (1, 2), (0, 3), (1, 3), (2, 3)]))
        p = b.at(0)
        self.same([p.arrows, asked(b, p, (3, 0)).arrows, asked_cost(b, p, (3, 0))],
                  [((0, 2), (0, 3), (1, 2), (1, 3), (2, 3)), ((0, 2), (1, 2), (3, 0), (3, 1), (3, 2)), (2, 3)])

    def test_turns_pins_middles(self):
        b = Behind(Web.full(3))
        p, q = Order.along([0, 1, 2]), Order.along([2, 0, 1])
        self.same([crossing_thing(p, (0, 2)), is_pin(b, p, [(1, 2), (0, 1)]), count_between(b, p, q),
                   share_as_part(b, (0, 1))], [1, True, 3, (4, 6)])

    def test_wishes(self):
        w = Web(*HAT)
        b = Behind(w)
        ring = [[(3, 2)], [(0, 1), (2, 1), (2, 3)]]
        self.same([held(b, [(4, 0), (3, 2)]).arrows, held(b, [(0, 1), (3, 2)]),
                   is_forced_ring(w, [(0, 1), (3, 2)], ring)],
                  [((1, 0), (1, 2), (3, 2), (4, 0), (4, 1), (4, 2), (4, 3)), None, True])
        self.same([count_held(b, [(4, 0)]), settled(b, [(0, 1)]), row_count(4, [(0, 1), (0, 2)])],
                  [2, ((0, 1), (2, 1), (2, 3)), 8])

    def test_shares(self):
        b, c = Behind(Web(*HAT)), Behind(Web.full(3))
        self.same([both(c, (0, 1), (0, 2)), together(c, (0, 1), (1, 2)), middle_counts(c, 2, 0, 1),
                   middle_counts(b, 0, 1, 4)], [(1, 3), (1, 3), (2, 2, 2), (2, 2, 0)])

    def test_bottoms(self):
        b = Behind(Web(*HAT))
        self.same([bottom_order(b, [2, 0]).arrows, count_bottoms(b, [2, 0]), bottom_order(b, [0, 3]),
                   count_ends(b, [0], [4]), bottoms_in_all(b)],
                  [((0, 1), (0, 4), (1, 4), (2, 1), (2, 3), (2, 4), (3, 4)), 1, None, 1, 6])

    def test_lines(self):
        self.same(jump_counts(Order(4, [(0, 1), (2, 1), (2, 3)])), (0, 1, 3, 1))
        self.same(carried(Order(4, [(1, 2)]), [0, 1, 2], [0, 3, 1, 2]), (2, 1, 3, 0))
        self.same(order_and_line(Behind(Web(4, [(0, 1), (1, 2), (2, 3)])), [2, 3, 0, 1]), (0, 4))

    def test_drawings(self):
        d = Drawings(Web(4, [(0, 1), (1, 2), (2, 3)]))
        self.same([d.many, d.rows(0), d.number_of_rows([[0, 2, 1, 3], [1, 0, 3, 2]])],
                  [4, ((0, 2, 1, 3), (1, 0, 3, 2)), 0])
        self.told(NoRows, {"contrary": False}, Drawings, Web(5, [(0, 1), (1, 2), (2, 3), (3, 4), (0, 4)]))

    def test_unbroken(self):
        rows = ((0, 1, 2, 3), (1, 0, 3, 2))
        self.same([unbroken_lots(rows), strong_by_rows(rows)[:3]],
                  [((0,), (0, 1), (0, 1, 2, 3), (1,), (2,), (2, 3), (3,)), ((0, 1, 2, 3), (0, 1), (2, 3))])

    def test_spans(self):
        w = span_web([(0, 2), (1, 3), (3, 5), [4, 4]])
        self.same([w.ties, crowds(w), spans_of(Web(4, [(0, 1), (1, 2), (2, 3)]))],
                  [((0, 1), (1, 2), (2, 3)), ((0, 1), (1, 2), (2, 3)), ((0, 0), (0, 1), (1, 2), (2, 2))])
        self.told(NoSpans, {"four": (0, 1, 2, 3), "ring": ()}, spans_of, Web(4, [(0, 1), (1, 2), (2, 3), (0, 3)]))

    def test_crowdrows(self):
        w = Web(4, [(0, 1), (0, 2), (0, 3)])
        self.same([CrowdRows(w).many, count_first(w, [2, 0]), both_ends(w, [0, 2], [0, 1])],
                  [6, 2, ((0, 2), (0, 3), (0, 1))])

    def test_names(self):
        w = Web(4, [(0, 1), (1, 2), (2, 3)])
        self.same([web_name(w), web_name(w | Web(1)), order_name(Order(4, [(1, 0), (1, 2), (3, 2)]) & Order(2))],
                  ["<1.3.0.2.>", "(.<1.3.0.2.>)", "[<1.3.0.2.>(..)]"])

    def test_likeness_and_unlike(self):
        w = Web(4, [(0, 1), (0, 2), (0, 3), (1, 2)])
        v = w.renamed((2, 0, 3, 1))
        self.same([w.renamed(renaming(w, v)) == v, count_renamings(w), count_permutations(w), unlike_orders(w)],
                  [True, 2, 4, (("[(.[..]).]", 2), ("[.(.[..])]", 2))])
        self.same(permutation_table(3), (("(...)", 1), ("(.[..])", 2), ("[(..).]", 2), ("[...]", 1)))

    def test_growing(self):
        web = with_thing(Web(4, [(0, 1), (2, 3)]), [2, 1])
        self.same(goes_on(Order(4, [(0, 1), (2, 3)]), web), ())
        web = with_thing(Web(2, [(0, 1)]), (0, 1))
        order = Order(2, [(0, 1)])
        self.same([sides(order, [1, 0]), count_going(order, web)], [(((), (0, 1)), ((0,), (1,)), ((0, 1), ())), 3])
        web, number = grown([[], [0], [1], [2], [3, 0]])
        self.same([web.ties, number], [((0, 1), (0, 4), (1, 2), (2, 3), (3, 4)), 4])

    def test_majority(self):
        web = with_thing(Web(4, [(0, 1), (2, 3)]), [2, 1])
        order = Order(4, [(0, 1), (2, 3)])
        self.same([goes_on(order, web), nearest(order, web).arrows, majority_of(order, web, (4, 2)),
                   count_nearest(order, web)], [(), ((0, 1), (3, 2), (4, 1), (4, 2)), (1, 1), 2])
        web = with_thing(Web(2, [(0, 1)]), (0, 1))
        order = Order(2, [(0, 1)])
        self.same([sides(order, [1, 0]), count_going(order, web), nearest(order, web).arrows],
                  [(((), (0, 1)), ((0,), (1,)), ((0, 1), ())), 3, ((0, 1), (0, 2), (1, 2))])

    def test_grafts(self):
        web = Web(3, [(0, 1), (1, 2)])
        self.same([graft(web, 1, Web.full(2)).ties, merged(web, 1, Web.full(2)), graft_counts(web, 1, Web.full(2))],
                  [((0, 2), (0, 3), (1, 2), (1, 3), (2, 3)), "full", (6, 6, 4)])
        one, inside = part_order(Order(4, [(2, 1), (2, 3), (1, 3)]), [3, 1])
        self.same([one.arrows, inside.arrows, back_row(4, [3, 1])], [((1, 2),), ((0, 1),), (0, 2, 1, 3)])

    def test_bars(self):
        w = Web(7, [(0, 1), (1, 2), (2, 3), (3, 4), (0, 4), (1, 5), (4, 5)])
        self.same([bar(w), bars_of(w), is_bar(w, [5, 4, 3, 2, 1]), is_bar(w, (0, 1, 2, 3, 4, 5))],
                  [(0, 1, 2, 3, 4), ((0, 1, 2, 3, 4), (1, 2, 3, 4, 5)), True, False])

    def test_asking(self):
        k = Asker(Behind(Web.full(4)))
        self.same([k.run(Order.along((2, 0, 3, 1))), k.next_ask([(2, 0)]), least_asks(k.behind),
                   asks_at_most(k.behind)], [((0, 1), (0, 2), (0, 3), (1, 3)), (0, 1), 5, 5])
        a = Answerer(Behind(Web.full(3)))
        self.same([a.answer((2, 1)), a.answer((0, 2)), a.left, a.answer([1, 0]), a.answer((2, 0)), a.told],
                  [(1, 2), (0, 2), 2, (0, 1), (0, 2), ((1, 2), (0, 2), (0, 1))])

    def test_desks(self):
        desk = Desk(Web(3, [(0, 1), (1, 2)]))
        first = desk.put([2, 1])
        second = desk.ask(1, 0)
        text = ("things 4, ties 4, orders 4, deeds 2\n  0: below 1; above -\n  1: below -; above 0 2 3\n"
                "  2: below 1; above 3\n  3: below 1 2; above -\nfull  0 1 2 3: 1 0\nfull  2 3: 0 1\n")
        self.same([first, second, desk.order.arrows, desk.history(), desk.number_told(), listing(desk)],
                  [0, 3, ((1, 0), (1, 2), (1, 3), (2, 3)), ("put", "asked"), 2, text])
        desk = Desk(Web(4, [(0, 1), (1, 2), (2, 3)]))
        placed = Placed(0, Web(2), Order(2))
        tried = desk.trial([Out(0), placed])
        self.same([deed_text(placed), tried.order.arrows, tried.many, desk.order.arrows],
                  ["placed 0 (2 things)", ((0, 1), (0, 2), (0, 3)), 0, ((0, 1), (2, 1), (2, 3))])
        desk = Desk(Web(4, [(0, 1), (1, 2), (2, 3)]))
        self.told(NoOrders, {}, desk.do_all, [Asked(1, 0), Put((0, 3))])


if __name__ == "__main__":
    unittest.main()
