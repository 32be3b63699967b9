"""Webs and orders as texts, and back."""

from ordersbehind.checks import MOST_THINGS
from ordersbehind.errors import BadText, NotClosed
from ordersbehind.orders import Order
from ordersbehind.webs import Web


def text_of(size, word, pairs):
    """The line with the size, then a line with the word for each pair."""
    lines = [f"things {size}"] + [f"{word} {first} {second}" for first, second in pairs]
    return "".join([line + "\n" for line in lines])


def web_text(web):
    return text_of(web.size, "tie", web.ties)


def order_text(order):
    return text_of(order.size, "below", order.arrows)


def number_in(word):
    """The number that the word is; -1 if it is none or too great for a size or a thing."""
    if len(word) not in (1, 2) or not all([sign in "0123456789" for sign in word]):
        return -1
    if len(word) == 2 and word[0] == "0":
        return -1
    return int(word)


def size_in(line):
    """The size that the first line tells, -1 if it is bad."""
    words = line.split(" ")
    if len(words) != 2 or words[0] != "things":
        return -1
    size = number_in(words[1])
    return size if 1 <= size <= MOST_THINGS else -1


def pair_in(line, word, size):
    """The pair that a further line tells, None if it is bad."""
    words = line.split(" ")
    if len(words) != 3 or words[0] != word:
        return None
    first = number_in(words[1])
    second = number_in(words[2])
    if min(first, second) < 0 or max(first, second) >= size or first == second:
        return None
    return first, second


def read(text, word):
    """The size and the pairs of a text whose further lines begin with the word."""
    if not isinstance(text, str):
        raise BadText(1)
    lines = text.split("\n")
    if len(lines) > 1 and lines[-1] == "":
        lines = lines[:-1]
    size = size_in(lines[0])
    if size < 0:
        raise BadText(1)
    pairs = []
    met = {}
    for number, line in enumerate(lines[1:], start=2):
        pair = pair_in(line, word, size)
        if pair is None or pair in met:
            raise BadText(number)
        first, second = pair
        met[(first, second)] = True
        met[(second, first)] = True
        pairs.append(pair)
    return size, pairs


def web_from(text):
    size, ties = read(text, "tie")
    return Web(size, ties)


def order_from(text):
    size, arrows = read(text, "below")
    try:
        return Order(size, arrows)
    except NotClosed as e:
        raise BadText(0) from e
