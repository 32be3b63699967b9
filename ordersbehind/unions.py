"""Parts that are unions of children of a knot."""

from math import factorial

from ordersbehind.masks import mask_of


def side_by_side(wood, lot, kinds):
    """The share of the rows of a knot's children in which those of a part stand side by side, as a pair.

    The pair is j! * (k - j + 1)! and k!, not reduced, if the part is the union of j of the k children of
    a knot of one of the kinds, with j at least 2 and less than k; otherwise it is 1 and 1.
    """
    if lot in wood:
        return 1, 1
    inside = mask_of(lot)
    # The part is not strong, so the smallest knot that contains it is not the part itself.
    knot = [one for one in wood.knots if inside & ~mask_of(one.lot) == 0][-1]
    if knot.kind not in kinds:
        return 1, 1
    joined = len([leader for leader in knot.leaders() if leader in lot])
    many = len(knot.children)
    return factorial(joined) * factorial(many - joined + 1), factorial(many)
