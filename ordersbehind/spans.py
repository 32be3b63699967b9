"""Spans: pairs of integers, the webs in which they meet, and the orders in which they come."""

from ordersbehind.checks import MOST_THINGS, is_several, is_whole
from ordersbehind.counts import has_orders
from ordersbehind.crowdlines import crowds_along, free_part_of, spans_along
from ordersbehind.crowds import bare_four, crowds
from ordersbehind.errors import BadSpan
from ordersbehind.orders import Order
from ordersbehind.webs import Web


def is_span(value):
    """True if the value is a list or tuple of two integers, the first one not above the last one."""
    if not is_several(value) or len(value) != 2:
        return False
    return is_whole(value[0]) and is_whole(value[1]) and value[0] <= value[1]


def spans_told(spans):
    """The spans as a list of tuples."""
    if not is_several(spans) or len(spans) < 1 or len(spans) > MOST_THINGS:
        raise BadSpan(-1)
    for place, span in enumerate(spans):
        if not is_span(span):
            raise BadSpan(place)
    return [(first, last) for first, last in spans]


def pairs_ahead(spans):
    """All pairs of things of which the first one's span ends below the beginning of the second one's."""
    return [(thing, other) for thing, span in enumerate(spans) for other, later in enumerate(spans)
            if span[1] < later[0]]


def span_web(spans):
    """The web that ties two things if their spans meet."""
    spans = spans_told(spans)
    return ~Web(len(spans), pairs_ahead(spans))


def first_come(spans):
    """The order in which a thing is below another one if its span ends below the beginning of the other's."""
    spans = spans_told(spans)
    return Order(len(spans), pairs_ahead(spans))


def spans_of(web):
    """Spans whose web is the web, from the row of crowds with the number 0."""
    order = free_part_of(web).at(0)
    return spans_along(web.size, crowds_along(order, crowds(web)))


def is_spans(web):
    """True if the web is a web of spans."""
    return bare_four(web) is None and has_orders(~web)
