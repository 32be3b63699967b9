"""Lots as masks: the integer in which bit number a is 1 for each thing a of the lot.

Masks make whole lots cheap to join and to compare. A list of masks, one for each thing, tells for
every thing the lot of the things that stand in some relation to it.
"""


def mask_of(lot):
    mask = 0
    for thing in lot:
        mask = mask | (1 << thing)
    return mask


def all_of(size):
    """The mask of all things."""
    return (1 << size) - 1


def things_in(mask):
    """The things of the mask, ascending."""
    things = []
    left = mask
    while left:
        things.append(least_in(left))
        left = left & (left - 1)
    return tuple(things)


def least_in(mask):
    """The least thing of a mask that has one."""
    return (mask & -mask).bit_length() - 1


def has_thing(mask, thing):
    return (mask >> thing) & 1 == 1


def masks_of_pairs(size, pairs):
    """For each thing a the mask of all b with the pair (a, b)."""
    masks = [0] * size
    for first, second in pairs:
        masks[first] = masks[first] | (1 << second)
    return tuple(masks)


def least_unlike(masks, others):
    """The least pair that one of the two lists of masks tells alone, (-1, -1) if they are not equally long.

    Each of them tells with (a, b) also (b, a). None if they are alike.
    """
    if len(masks) != len(others):
        return -1, -1
    for first, (mask, other) in enumerate(zip(masks, others)):
        # A lesser first thing would have told of this pair already, so the least second one is behind first.
        if mask != other:
            return first, least_in(mask ^ other)
    return None


def contrary_masks(masks):
    """For each thing the mask of all other things that are not in its mask."""
    everything = all_of(len(masks))
    return tuple([everything & ~mask & ~(1 << thing) for thing, mask in enumerate(masks)])


def pieces_in(masks, within):
    """The pieces of the mask within, by their least things, if masks tell what each thing is tied to."""
    pieces = []
    left = within
    while left:
        piece = piece_from(masks, left)
        pieces.append(piece)
        left = left & ~piece
    return pieces


def piece_from(masks, within):
    """The things of within that hang together with the least of them."""
    piece = 0
    coming = within & -within
    while coming:
        piece = piece | coming
        reached = 0
        for thing in things_in(coming):
            reached = reached | masks[thing]
        coming = reached & within & ~piece
    return piece
