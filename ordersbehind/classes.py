"""The classes of arrows that force one another, and the colours of their ties."""

from ordersbehind.forcing import arrow_of, forced_from, two_arrows_of


def class_from(web, arrow):
    """The class of an arrow of the web, ascending."""
    found = {arrow: True}
    waiting = [arrow]
    while waiting:
        member = waiting.pop()
        for step in forced_from(web, member):
            if step not in found:
                found[step] = True
                waiting.append(step)
    return tuple(sorted(found))


def ties_of_arrows(arrows):
    """The ties of the arrows, ascending."""
    return tuple(sorted({(min(arrow), max(arrow)) for arrow in arrows}))


def ends_of(ties):
    """The things at the ends of the ties, ascending."""
    return tuple(sorted({thing for tie in ties for thing in tie}))


def class_of(web, arrow):
    return class_from(web, arrow_of(web, arrow))


def classes(web):
    """All classes, by their least arrows."""
    found = []
    met = {}
    for arrow in sorted(list(web.ties) + [(second, first) for first, second in web.ties]):
        if arrow not in met:
            arrows = class_from(web, arrow)
            found.append(arrows)
            for member in arrows:
                met[member] = True
    return tuple(found)


def same_class(web, first, last):
    first, last = two_arrows_of(web, first, last)
    return last in class_from(web, first)


def colour_of(web, tie):
    """The colour of the tie, ascending."""
    return ties_of_arrows(class_of(web, tie))


def colours(web):
    """All colours, by their least ties."""
    found = []
    met = {}
    for tie in web.ties:
        if tie not in met:
            ties = ties_of_arrows(class_from(web, tie))
            found.append(ties)
            for member in ties:
                met[member] = True
    return tuple(found)


def is_odd(web, tie):
    """True if the class of the tie's arrows has two contrary arrows."""
    first, second = arrow_of(web, tie)
    return (second, first) in class_from(web, (first, second))


def touched(web, tie):
    """The lot that the tie's colour touches."""
    return ends_of(colour_of(web, tie))
