"""Chains: sequences of arrows in which each forces the next one or is equal to it."""

from ordersbehind.checks import is_several
from ordersbehind.forcing import forced_from, two_arrows_of


def chain(web, first, last):
    """A shortest chain from the arrow first to the arrow last, None if they are not in one class."""
    first, last = two_arrows_of(web, first, last)
    # From the last arrow back, so that the steps behind an arrow lead on to the last one.
    onward = {last: None}
    layer = [last]
    while layer and first not in onward:
        coming = []
        for arrow in list(layer):
            for step in forced_from(web, arrow):
                if step not in onward:
                    onward[step] = arrow
                    coming.append(step)
        layer = coming
    return path_from(onward, first) if first in onward else None


def path_from(onward, first):
    """The arrows from the first one on, where onward tells the next arrow, None for the last one."""
    path = [first]
    while onward[path[-1]] is not None:
        path.append(onward[path[-1]])
    return tuple(path)


def is_chain(web, arrows):
    """True if the value is a list or tuple that is a chain of the web."""
    if not is_several(arrows) or len(arrows) == 0:
        return False
    if not all([arrow in web for arrow in arrows]):
        return False
    path = [(first, second) for first, second in arrows]
    return all([one == other or other in forced_from(web, one) for one, other in zip(path, path[1:])])
