"""How the colours of a web stand in its wood."""

from ordersbehind.classes import colours, ends_of
from ordersbehind.forcing import arrow_of
from ordersbehind.masks import mask_of, things_in
from ordersbehind.rings import odd_ring, ring_of
from ordersbehind.wood import Wood, in_sequence, knot_number, quotient


def ties_between(one, other):
    """All ties between the things of two children, ascending."""
    return tuple(sorted([(min(a, b), max(a, b)) for a in one for b in other]))


def pairs_of_children(knot):
    """The ties between each two children of the knot, by the least ties."""
    lots = knot.children
    # The least things of the children ascend, so the children's numbers give the sequence of the least ties.
    return [ties_between(one, other) for place, one in enumerate(lots) for other in lots[place + 1:]]


def knot_colours(wood, number):
    """The colours whose ties part at the knot, by their least ties."""
    knot = wood.knots[knot_number(wood, number)]
    if knot.kind == Wood.FREE:
        return ()
    between = pairs_of_children(knot)
    if knot.kind == Wood.FULL:
        return tuple(between)
    tied = [ties for ties in between if ties[0] in wood.web]
    return (tuple(sorted([tie for ties in tied for tie in ties])),)


def colour_place(wood, tie):
    """The number of the knot at which the tie parts, and the two children if it is full, else -1 twice."""
    first, second = arrow_of(wood.web, tie)
    knot = wood.parting(first, second)
    if knot.kind == Wood.FIRM:
        return knot.number, -1, -1
    one = knot.child(first)
    other = knot.child(second)
    return knot.number, min(one, other), max(one, other)


def firm_and_full(wood):
    """The number of the firm knots, and how many children each full knot has."""
    firm = [knot for knot in wood.knots if knot.kind == Wood.FIRM]
    return len(firm), [len(knot.children) for knot in wood.knots if knot.kind == Wood.FULL]


def count_colours(wood):
    firm, full = firm_and_full(wood)
    return firm + sum([many * (many - 1) // 2 for many in full])


def count_loose(wood):
    firm, full = firm_and_full(wood)
    return firm + sum([many - 1 for many in full])


def odd_knots(wood):
    """The numbers of the firm knots whose quotient has an odd ring."""
    firm = [knot.number for knot in wood.knots if knot.kind == Wood.FIRM]
    return tuple([number for number in firm if odd_ring(quotient(wood, number)) is not None])


def ring_below(wood, ring):
    """The number of the knot at which the ring's ties part, and the children that have the ring's things."""
    ring = ring_of(wood.web, ring)
    knot = wood.parting(ring[0], ring[1])
    return knot.number, tuple([knot.child(thing) for thing in ring])


def masks_lap(one, other):
    shared = one & other
    return shared != 0 and shared != one and shared != other


def unions_of_heaps(lots):
    """The unions of the heaps into which the lots fall, if two that lap are in one heap; all as masks."""
    unions = []
    waiting = list(lots)
    while waiting:
        heap = [waiting.pop()]
        union = 0
        while heap:
            lot = heap.pop()
            union = union | lot
            heap.extend([other for other in waiting if masks_lap(lot, other)])
            waiting = [other for other in waiting if not masks_lap(lot, other)]
        unions.append(union)
    return unions


def lots_by_colours(web):
    """The lots of the wood, computed from the colours of the web and of its contrary."""
    found = sorted({mask_of(ends_of(ties)) for ties in colours(web) + colours(~web)})
    return in_sequence([things_in(union) for union in unions_of_heaps(found)]
                       + [(thing,) for thing in range(web.size)])
