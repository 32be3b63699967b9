"""Own looks at webs and orders, straight from the definitions, for the tests to compare with.

Nothing here uses the package. A web is told as its size and its ties, lesser things first.
"""

import random
from functools import lru_cache
from itertools import combinations, permutations, product

PATH = (4, ((0, 1), (1, 2), (2, 3)))
FIVE = (5, ((0, 1), (0, 4), (1, 2), (2, 3), (3, 4)))
NET = (6, ((0, 1), (0, 2), (0, 3), (1, 2), (1, 4), (2, 5)))
HAT = (5, ((0, 1), (0, 4), (1, 2), (1, 4), (2, 3), (2, 4), (3, 4)))
LONE = (6, HAT[1])
# Knots: all things, full; 0 to 5, firm, of four children; 1 and 2, full; 4 and 5, free.
MIXED = (7, ((0, 1), (0, 2), (0, 6), (1, 2), (1, 3), (1, 6), (2, 3), (2, 6), (3, 4), (3, 5), (3, 6), (4, 6), (5, 6)))


def all_pairs(size):
    return list(combinations(range(size), 2))


def every_web(size):
    """All webs of this size."""
    pairs = all_pairs(size)
    for choice in product((False, True), repeat=len(pairs)):
        yield size, tuple(pair for pair, taken in zip(pairs, choice) if taken)


def some_webs(seed, count, sizes):
    """Some webs of these sizes, the same ones at each call."""
    chance = random.Random(seed)
    for _ in range(count):
        size = chance.choice(sizes)
        often = chance.choice((0.2, 0.35, 0.5, 0.65, 0.8))
        yield size, tuple(pair for pair in all_pairs(size) if chance.random() < often)


def nested_webs(seed, count, largest):
    """Some webs put together side by side, so that their woods are deep."""
    chance = random.Random(seed)
    for _ in range(count):
        size, ties = chance.choice((PATH, (1, ()), (2, ((0, 1),))))
        while True:
            more, other = chance.choice((PATH, (1, ()), (1, ()), (2, ((0, 1),)), (2, ())))
            if size + more > largest:
                break
            ties = ties + tuple((a + size, b + size) for a, b in other)
            if chance.random() < 0.5:
                ties = ties + tuple((a, size + b) for a in range(size) for b in range(more))
            size = size + more
        row = list(range(size))
        chance.shuffle(row)
        yield size, renamed(ties, row)


def renamed(ties, row):
    return tuple(sorted(tuple(sorted((row[a], row[b]))) for a, b in ties))


def small_webs():
    """All webs of at most four things."""
    for size in range(1, 5):
        yield from every_web(size)


def middling_webs():
    """All webs of at most four things, and some larger ones of every kind."""
    yield from small_webs()
    yield from (FIVE, NET, HAT, LONE, MIXED)
    yield from some_webs(7, 120, (5, 6, 7))
    yield from nested_webs(8, 60, 8)


@lru_cache(maxsize=None)
def orders_of(size, ties):
    """The arrows of all orders behind a web, ascending."""
    return tuple(Look(size, ties).orders())


@lru_cache(maxsize=None)
def webs_with_orders(most=9):
    """Some webs of at most so many ties that have orders behind them: each web, and the arrows of all its orders."""
    told = list(middling_webs()) + list(every_web(5))[::29] + [(4, tuple(all_pairs(4)))]
    told += [(6, ((0, 1), (0, 2), (1, 2), (3, 4), (3, 5), (4, 5)))]
    told += [(6, ((0, 4), (0, 5), (1, 4), (1, 5), (2, 4), (2, 5), (4, 5)))]
    found = [(web, orders_of(*web)) for web in dict.fromkeys(told) if len(web[1]) <= most]
    return [(web, orders) for web, orders in found if orders]


def every_lot(size, least=1):
    """All lots of the things, from so many things on."""
    return [lot for many in range(least, size + 1) for lot in combinations(range(size), many)]


def turned_back(arrows):
    """The contrary arrows, ascending."""
    return tuple(sorted((b, a) for a, b in arrows))


class Look:
    """An own look at a web."""

    def __init__(self, size, ties):
        self.size = size
        self.ties = tuple(ties)
        self.things = tuple(range(size))
        self.joined = {frozenset(tie) for tie in ties}

    def tied(self, a, b):
        return frozenset((a, b)) in self.joined

    def contrary(self):
        return Look(self.size, [pair for pair in all_pairs(self.size) if pair not in self.ties])

    def on(self, lot):
        lot = sorted(lot)
        return Look(len(lot), [(i, j) for i, j in all_pairs(len(lot)) if self.tied(lot[i], lot[j])])

    def arrows(self):
        return [(a, b) for a in self.things for b in self.things if self.tied(a, b)]

    def forces(self, one, other):
        (a, b), (c, d) = one, other
        if a == c:
            return b != d and self.tied(a, d) and not self.tied(b, d)
        if b == d:
            return self.tied(c, b) and not self.tied(a, c)
        return False

    def forced(self, arrow):
        return [other for other in self.arrows() if self.forces(arrow, other)]

    def layers(self, arrow):
        """How many steps of forcing lead to each arrow of the class."""
        far = {arrow: 0}
        front = [arrow]
        while front:
            coming = []
            for one in front:
                for other in self.forced(one):
                    if other not in far:
                        far[other] = far[one] + 1
                        coming.append(other)
            front = coming
        return far

    def class_of(self, arrow):
        return tuple(sorted(self.layers(arrow)))

    def classes(self):
        return tuple(sorted({self.class_of(arrow) for arrow in self.arrows()}))

    def colour_of(self, tie):
        return tuple(sorted({tuple(sorted(arrow)) for arrow in self.class_of(tuple(tie))}))

    def colours(self):
        return tuple(sorted({self.colour_of(tie) for tie in self.ties}))

    def is_odd(self, tie):
        return (tie[1], tie[0]) in self.class_of(tuple(tie))

    def is_ring(self, things):
        many = len(things)
        if many < 3 or many % 2 == 0:
            return False
        return all(self.tied(things[i], things[(i + 1) % many])
                   and not self.tied(things[i], things[(i + 2) % many]) for i in range(many))

    def ring_sizes(self, ties, most):
        """The numbers of things, at most so many, of the odd rings whose ties are among the ties, ascending."""
        allowed = {frozenset(tie) for tie in ties}
        starts = [arrow for arrow in self.arrows() if frozenset(arrow) in allowed]
        reached = {arrow: {arrow} for arrow in starts}
        found = []
        for many in range(1, most + 1):
            for start in starts:
                reached[start] = {(b, c) for a, b in reached[start] for c in self.things
                                  if frozenset((b, c)) in allowed and not self.tied(a, c)}
            if many % 2 == 1 and any(start in reached[start] for start in starts):
                found.append(many)
        return found

    def least_ring(self, ties):
        """The least number of things of an odd ring whose ties are among the ties, None if there is none."""
        return min(self.ring_sizes(ties, 2 * len(self.ties) + 2), default=None)

    def splitter(self, lot):
        for thing in self.things:
            if thing not in lot and 0 < sum(self.tied(thing, other) for other in lot) < len(lot):
                return thing
        return None

    def parts(self):
        lots = [lot for many in range(1, self.size + 1) for lot in combinations(self.things, many)]
        return sorted(lot for lot in lots if self.splitter(lot) is None)

    @lru_cache(maxsize=None)
    def strong(self):
        """The strong parts of two things or more, in the sequence of the knots, then the single things."""
        parts = self.parts()
        found = [lot for lot in parts if not any(laps(lot, other) for other in parts)]
        knots = sorted((lot for lot in found if len(lot) > 1), key=lambda lot: (-len(lot), lot))
        return knots + [(thing,) for thing in self.things]

    def children(self, lot):
        inside = [other for other in self.strong() if set(other) < set(lot)]
        return sorted(other for other in inside
                      if not any(set(other) < set(larger) for larger in inside))

    def kind(self, lot):
        children = self.children(lot)
        ties = [self.tied(a, b) for one, other in combinations(children, 2) for a in one for b in other]
        return "full" if all(ties) else "firm" if any(ties) else "free"

    def parting(self, a, b):
        """The smallest strong part that has both things."""
        return [lot for lot in self.knots() if a in lot and b in lot][-1]

    def knots(self):
        return [lot for lot in self.strong() if len(lot) > 1]

    def union(self, part):
        """The kind of a knot and the numbers j and k, if the part is made of j of its k children, 1 < j < k."""
        if part in self.strong():
            return None
        knot = [lot for lot in self.knots() if set(part) <= set(lot)][-1]
        children = self.children(knot)
        return self.kind(knot), sum(child[0] in part for child in children), len(children)

    def pieces(self):
        found = []
        for thing in self.things:
            if not any(thing in piece for piece in found):
                piece = {thing}
                while True:
                    more = {b for a in piece for b in self.things if self.tied(a, b)} - piece
                    if not more:
                        break
                    piece |= more
                found.append(tuple(sorted(piece)))
        return tuple(found)

    def orders(self):
        """The arrows of all orders behind the web, ascending."""
        found = []
        for turned in product((False, True), repeat=len(self.ties)):
            arrows = sorted((b, a) if turn else (a, b) for turn, (a, b) in zip(turned, self.ties))
            if gap_of(arrows) is None:
                found.append(tuple(arrows))
        return sorted(found)


def gap_of(arrows):
    """The least triple that keeps the arrows from being closed, None if they are closed."""
    known = set(arrows)
    return min(((a, b, d) for a, b in arrows for c, d in arrows if b == c and (a, d) not in known), default=None)


def laps(one, other):
    one, other = set(one), set(other)
    return bool(one & other) and bool(one - other) and bool(other - one)


def every_order(size):
    """The arrows of all orders of this size."""
    for ties in every_web(size):
        yield from Look(*ties).orders()


def every_row(size):
    return list(permutations(range(size)))


def misfits_of(look, row):
    """All triples of things that keep the row from fitting, by their places."""
    return [(row[i], row[j], row[k]) for i, j, k in combinations(range(len(row)), 3)
            if look.tied(row[i], row[j]) and look.tied(row[j], row[k]) and not look.tied(row[i], row[k])]
