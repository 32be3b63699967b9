"""The interface: every name stands in its file, with its parameters; every method stands in its class."""

import importlib
import inspect
import unittest

FUNCTIONS = {
    "checks": ["thing_of(size, value, name='thing')", "lot_of(size, things, *, empty=False)", "row_of(size, things)",
               "pair_of(size, pair)", "ties_of(size, pairs)", "arrows_of(size, pairs)",
               "number_of_kind(value, low, high, name)"],
    "orders": ["web_of(order)", "is_behind(order, web)", "unlike_pair(order, web)"],
    "texts": ["web_text(web)", "order_text(order)", "web_from(text)", "order_from(text)"],
    "plain": ["all_behind(web)", "misfit(web, row)", "fits(web, row)", "turned_by(web, row)"],
    "forcing": ["forced_by(web, arrow)", "forces(web, first, last)"],
    "classes": ["class_of(web, arrow)", "classes(web)", "same_class(web, first, last)", "colour_of(web, tie)",
                "colours(web)", "is_odd(web, tie)", "touched(web, tie)"],
    "chains": ["chain(web, first, last)", "is_chain(web, arrows)"],
    "rings": ["odd_ring(web, *, tie=None)", "is_odd_ring(web, things)", "ring_chain(web, ring)",
              "colour_of_ring(web, ring)"],
    "parts": ["splitter(web, lot)", "is_part(web, lot)", "part_with(web, lot)", "parts(web)", "lap(one, other)"],
    "wood": ["quotient(wood, number)", "count_parts(wood)"],
    "colourwood": ["knot_colours(wood, number)", "colour_place(wood, tie)", "count_colours(wood)", "count_loose(wood)",
                   "odd_knots(wood)", "ring_below(wood, ring)", "lots_by_colours(web)"],
    "choices": ["first_ways(behind)", "next_ways(behind, ways)", "contrary_ways(behind, ways)",
                "with_arrow(behind, arrow)", "only_contraries(web)", "choice_text(behind, ways)"],
    "counts": ["count_orders(web)", "has_orders(web)", "made_one(web, lot)", "share_of_parts(web, lot)"],
    "flips": ["loose(behind, order)", "is_loose(behind, order, tie)", "flip(behind, order, tie)",
              "differing(behind, one, other)", "distance(behind, one, other)"],
    "walks": ["walk(behind, one, other)", "flip_walk(behind)", "flips_of(behind, orders)",
              "asked(behind, order, arrow)", "asked_cost(behind, order, arrow)"],
    "turns": ["crossing_thing(order, lot)", "is_part_of(order, lot)", "turn(order, lot)", "same_web(one, other)",
              "turns(one, other)", "turned_along(order, lots)"],
    "pins": ["is_pin(behind, order, arrows)", "pin(behind, order)", "count_pins(behind, order)",
             "tells_apart(behind, ties)"],
    "middles": ["is_between(behind, one, order, other)", "count_between(behind, one, other)",
                "middle(behind, one, two, three)", "share_as_part(behind, lot)"],
    "wishes": ["held(behind, arrows, *, last=False)", "forced_ring(behind, arrows)",
               "is_forced_ring(web, arrows, chains)", "count_held(behind, arrows)", "settled(behind, arrows)",
               "row_count(many, pairs)"],
    "shares": ["both(behind, one, other)", "together(behind, one, other)", "middle_kind(web, first, second, third)",
               "middle_counts(behind, first, second, third)"],
    "bottoms": ["bottom_order(behind, lot)", "bottom_bar(behind, lot)", "count_bottoms(behind, lot)",
                "ends_order(behind, low, high)", "ends_bar(behind, low, high)", "count_ends(behind, low, high)",
                "bottoms_in_all(behind)"],
    "lines": ["in_line(order, row)", "lines_of(order)", "count_lines(order)", "jumps(order, row)",
              "jump_counts(order)", "words_below(order, sizes)", "count_by_wood(behind)"],
    "carrying": ["stretches(row, lot)", "carried(order, lot, row)"],
    "levels": ["is_levelling(order, many, levels, *, strict=True)", "count_levellings(order, many, *, strict=True)",
               "turned_levels(order, lot, levels)"],
    "fitting": ["count_fitting(web)", "order_and_line(behind, row)", "fitting_row(behind, number, place)"],
    "crossings": ["rows_of(rows)", "crossing_web(rows)", "common_part(rows)", "is_drawing(web, rows)",
                  "fits_both(web, row)", "turned_rows(rows)", "backward_rows(rows)", "contrary_rows(rows)"],
    "drawings": ["some_drawing(web)", "pair_for(order)", "count_pairs_for(order)"],
    "unbroken": ["is_unbroken(row, lot)", "unbroken_lots(rows)", "strong_by_rows(rows)",
                 "count_unbroken(drawings, lot)"],
    "manyrows": ["rows_for(rows, other)", "rows_on(rows, lot)"],
    "crowds": ["crowds(web)", "is_crowd(web, lot)", "bare_four(web)", "is_bare_four(web, things)"],
    "spans": ["span_web(spans)", "first_come(spans)", "spans_of(web)", "is_spans(web)"],
    "crowdrows": ["is_crowd_row(web, row)", "first_crowd(web, crowd)", "first_bar(web, crowd)",
                  "count_first(web, crowd)", "both_ends(web, one, other)", "count_both_ends(web, one, other)"],
    "names": ["spelled(rows)", "rows_spelling(places)", "web_name(web)", "order_name(order)"],
    "likeness": ["alike(one, other)", "renaming(one, other)", "count_renamings(web)", "orders_alike(one, other)",
                 "order_renaming(one, other)", "count_order_renamings(order)", "count_permutations(web)"],
    "unlike": ["unlike_orders(web)", "is_like_contrary(order)", "web_like_contrary(web)", "permutation_table(size)"],
    "growing": ["with_thing(web, near)", "goes_on(order, web)", "count_going(order, web)", "stuck(order, web)",
                "is_stuck_pair(order, web, one, arrows)", "sides(order, near)", "order_by_sides(order, low, high)",
                "joined_classes(web)", "grown(nears)"],
    "majority": ["nearest(order, web)", "least_turned(order, web)", "count_nearest(order, web)",
                 "turned_ties(order, other)", "majority_of(order, web, tie)"],
    "onetie": ["may_add(order, first, second)", "added(order, first, second)", "may_drop(order, first, second)",
               "dropped(order, first, second)"],
    "grafts": ["graft(web, thing, guest)", "graft_order(order, thing, guest_order)", "part_order(order, lot)",
               "merged(web, thing, guest)", "graft_counts(web, thing, guest)", "back_row(size, lot)"],
    "bars": ["bar(web)", "is_bar(web, lot)", "bar_papers(web, lot)", "bars_of(web)"],
    "asking": ["least_asks(behind)", "asks_at_most(behind)", "asks_at_least(behind)", "idle(behind, told, tie)"],
    "deeds": ["deed_text(deed)"],
    "listings": ["thing_line(desk, thing)", "listing(desk)"],
}

METHODS = {
    "webs.Web": ["__init__(self, size, ties=())", "tied(self, first, second)", "near(self, thing)", "on(self, lot)",
                 "without(self, thing)", "renamed(self, row)", "pieces(self)"],
    "orders.Order": ["__init__(self, size, arrows=())", "has(self, first, second)", "below(self, thing)",
                     "above(self, thing)", "bottoms(self)", "tops(self)", "on(self, lot)", "without(self, thing)",
                     "renamed(self, row)"],
    "wood.Knot": ["child(self, thing)", "leaders(self)"],
    "wood.Wood": ["__init__(self, web)", "lots(self)", "parting(self, first, second)", "knots_over(self, thing)",
                  "parent(self, number)"],
    "behind.Behind": ["__init__(self, web)", "order_of(self, ways)", "ways_of(self, order)", "number_of(self, order)",
                      "at(self, number)", "colour_ways(self, order, tie)", "by_number(self)"],
    "carrying.Carrier": ["__init__(self, one, other)", "__call__(self, row)", "backwards(self)"],
    "drawings.Drawings": ["__init__(self, web)", "rows(self, number)", "orders_of(self, rows)",
                          "number_of_rows(self, rows)", "put_together(self, order, other)", "by_number(self)"],
    "crowdrows.CrowdRows": ["__init__(self, web)", "crowd_row(self, order)", "order_of_crowds(self, row)",
                            "at(self, number)", "number_of(self, row)", "by_number(self)"],
    "asking.Asker": ["__init__(self, behind)", "next_ask(self, told)", "run(self, order)", "found(self, told)"],
    "asking.Answerer": ["__init__(self, behind)", "answer(self, tie)", "sure(self)"],
    "deeds.Deed": ["word(self)"],
    "deeds.Put": ["__init__(self, neighbours)", "word(self)"],
    "deeds.Out": ["__init__(self, thing)", "word(self)"],
    "deeds.Asked": ["__init__(self, first, second)", "word(self)"],
    "deeds.Placed": ["__init__(self, thing, guest, guest_order)", "word(self)"],
    "deeds.Fused": ["__init__(self, lot)", "word(self)"],
    "desks.Desk": ["__init__(self, web, *, order=None)", "history(self)", "put(self, near)", "out(self, thing)",
                   "ask(self, first, second)", "put_in(self, thing, guest, guest_order)", "fuse(self, lot)",
                   "do(self, deed)", "do_all(self, deeds)", "trial(self, deeds)", "back(self)", "number_told(self)"],
}

SIGNS = {
    "webs.Web": ["__invert__", "__eq__", "__len__", "__contains__", "__iter__", "__or__", "__and__"],
    "orders.Order": ["__invert__", "__eq__", "__len__", "__contains__", "__iter__", "__or__", "__and__"],
    "wood.Wood": ["__len__", "__iter__", "__contains__"],
    "behind.Behind": ["__contains__", "__eq__"],
    "carrying.Carrier": ["__call__", "__eq__"],
    "desks.Desk": ["__eq__"],
}

DECORATED = {
    "webs.Web": [("full", classmethod)],
    "orders.Order": [("along", classmethod)],
    "wood.Wood": [("kinds", staticmethod), ("height", property)],
    "behind.Behind": [("many", property)],
    "drawings.Drawings": [("many", property)],
    "crowdrows.CrowdRows": [("many", property)],
    "asking.Answerer": [("left", property)],
    "desks.Desk": [("many", property)],
}

ERRORS = {
    "BadNumber": "name", "BadThing": "name", "BadPair": "place", "BadLot": "place", "BadRow": "place",
    "BadText": "line", "BadWays": "place", "BadSizes": "place", "BadLevels": "place", "BadSpan": "place",
    "BadCrowds": "place", "BadDeed": "place", "NotTied": "first, second", "NotArrow": "first, second",
    "NotClosed": "first, second, third", "NotBehind": "first, second", "OtherWeb": "first, second",
    "NotPart": "thing", "NotLoose": "first, second", "NotInLine": "first, second", "NotDrawing": "first, second",
    "NotCrowd": "", "NotBar": "", "NotHeld": "", "NoMiddle": "things", "NothingDone": "", "NoOrders": "ring",
    "NoRows": "ring, contrary", "NoSpans": "four, ring", "TooMany": "name",
}

# Every heading of the interface.
FILES = """errors checks webs orders texts plain forcing classes chains rings parts wood colourwood behind choices counts
    flips walks turns pins middles wishes shares bottoms lines carrying levels fitting crossings drawings unbroken manyrows
    crowds spans crowdrows names likeness unlike growing majority onetie grafts bars asking deeds desks listings""".split()


def found(path):
    """The class with this path."""
    name, inside = path.split(".")
    return getattr(importlib.import_module("ordersbehind." + name), inside)


class InterfaceTest(unittest.TestCase):

    def test_functions(self):
        for name, signatures in FUNCTIONS.items():
            module = importlib.import_module("ordersbehind." + name)
            for signature in signatures:
                function = getattr(module, signature.split("(")[0])
                self.assertEqual(function.__module__, module.__name__)
                self.assertEqual(function.__name__ + str(inspect.signature(function)), signature)

    def test_methods(self):
        for path, signatures in METHODS.items():
            for signature in signatures:
                method = vars(found(path))[signature.split("(")[0]]
                self.assertEqual(method.__name__ + str(inspect.signature(method)), signature)

    def test_signs(self):
        for path, names in SIGNS.items():
            for name in names:
                self.assertIn(name, vars(found(path)), path)

    def test_decorated(self):
        for path, names in DECORATED.items():
            for name, kind in names:
                self.assertIsInstance(vars(found(path))[name], kind)

    def test_places_of_classes(self):
        for path in METHODS:
            self.assertEqual(found(path).__module__, "ordersbehind." + path.split(".")[0])

    def test_files(self):
        told = set(FUNCTIONS) | {path.split(".")[0] for path in METHODS} | {"errors"}
        self.assertEqual(set(FILES), told)

    def test_errors(self):
        module = importlib.import_module("ordersbehind.errors")
        for name, attributes in ERRORS.items():
            error = getattr(module, name)
            self.assertEqual((error.__bases__, error.__module__), ((module.BehindError,), module.__name__))
            names = attributes.split(", ") if attributes else []
            raised = error(*range(len(names)))
            self.assertEqual([getattr(raised, one) for one in names], list(range(len(names))))
        self.assertEqual(module.BehindError.__bases__, (ValueError,))

    def test_parameters_of_class_methods(self):
        self.assertEqual(str(inspect.signature(found("webs.Web").full)), "(size)")
        self.assertEqual(str(inspect.signature(found("orders.Order").along)), "(row)")


if __name__ == "__main__":
    unittest.main()
