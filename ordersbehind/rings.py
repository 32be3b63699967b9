"""Odd rings: what a web has exactly if no order is behind it."""

from ordersbehind.checks import is_several, is_thing
from ordersbehind.classes import colour_of, colours, is_odd
from ordersbehind.errors import BadRow
from ordersbehind.masks import has_thing, things_in

SHORTEST_RING = 5


def odd_ring(web, *, tie=None):
    """A shortest odd ring, of the tie's colour if a tie is told; None if there is none."""
    found = [colour_of(web, tie)] if tie is not None else colours(web)
    # In a shortest ring no thing has the same next thing twice: a shorter odd ring would lie between the two places.
    most = 2 * len(web.ties)
    best = None
    for start in [arrow for ties in found if is_odd(web, ties[0]) for arrow in ties]:
        ring = ring_from(web, start, most)
        if ring is not None:
            best = ring
            most = len(ring) - 2
        if most < SHORTEST_RING:
            break
    return best


def ring_from(web, start, most):
    """A shortest odd ring that begins with the arrow start, None if it has more than most things.

    A walk goes from (x, y) to (y, z) if z is tied to y and not to x. An odd ring is such a walk of an
    odd number of steps back to where it began. Layer number i tells the pairs that i steps lead to
    and no i - 2, i - 4 .. steps: for each first thing the mask of the second ones.
    """
    first, second = start
    layer = [0] * web.size
    layer[first] = 1 << second
    layers = [layer]
    met = [layer, [0] * web.size]
    while len(layers) <= most and max(layers[-1]) > 0:
        parity = len(layers) % 2
        layer = next_layer(web, layers[-1], met[parity])
        layers.append(layer)
        if parity == 1 and has_thing(layer[first], second):
            return walk_back(web, layers, start)
        met[parity] = [old | new for old, new in zip(met[parity], layer)]
    return None


def next_layer(web, layer, met):
    """The pairs that one step leads to from the layer, less those that are met."""
    reached = [0] * web.size
    for first, seconds in enumerate(layer):
        for second in things_in(seconds):
            reached[second] = reached[second] | (web.masks[second] & ~web.masks[first])
    return [new & ~old for new, old in zip(reached, met)]


def walk_back(web, layers, start):
    """The first things of a walk through the layers that ends with the pair start."""
    pair = start
    ring = []
    for layer in reversed(layers[:-1]):
        pair = step_back(web, layer, pair)
        ring.append(pair[0])
    return tuple(reversed(ring))


def step_back(web, layer, pair):
    """A pair of the layer from which one step leads to the pair."""
    first, second = pair
    before = web.masks[first] & ~web.masks[second]
    return [(thing, first) for thing in things_in(before) if has_thing(layer[thing], first)][0]


def is_odd_ring(web, things):
    """True if the value is a list or tuple that is an odd ring of the web."""
    if not is_several(things) or len(things) < 3 or len(things) % 2 == 0:
        return False
    if not all([is_thing(web.size, thing) for thing in things]):
        return False
    ring = list(things)
    after = ring[1:] + ring[:1]
    next_but_one = ring[2:] + ring[:2]
    return all([has_thing(web.masks[a], b) and not has_thing(web.masks[a], c)
                for a, b, c in zip(ring, after, next_but_one)])


def ring_of(web, ring):
    """The odd ring as a tuple."""
    if not is_odd_ring(web, ring):
        raise BadRow(0)
    return tuple(ring)


def ring_chain(web, ring):
    """The chain along the ring from its first arrow to the contrary one."""
    ring = ring_of(web, ring)
    round_again = ring + ring[:2]
    pairs = list(zip(round_again, round_again[1:]))
    return tuple([pair if place % 2 == 0 else (pair[1], pair[0]) for place, pair in enumerate(pairs)])


def colour_of_ring(web, ring):
    """The least tie of the colour in which the ring's ties are."""
    ring = ring_of(web, ring)
    return colour_of(web, (ring[0], ring[1]))[0]
