"""Exact fractions, as tuples (top, bottom) in lowest terms, and their texts."""

from echohouse.divisors import SHORT_QUOTIENT, common, divided
from echohouse.errors import NoFraction

NOUGHT = (0, 1)
ONE = (1, 1)
LESS = (-1, 1)
MOST_FIGURES = 30


def is_whole(thing):
    return isinstance(thing, int) and not isinstance(thing, bool)


def is_whole_below(thing, many):
    """Whether the thing is a whole number from 0 to one less than many."""
    return is_whole(thing) and 0 <= thing < many


def is_fraction(thing):
    if not isinstance(thing, tuple) or len(thing) != 2:
        return False
    top, bottom = thing
    return is_whole(top) and is_whole(bottom) and bottom >= 1 and common(top, bottom) == 1


def frac(top, bottom):
    if bottom == 0:
        raise ZeroDivisionError("a fraction has no bottom 0")
    shared = common(top, bottom)
    if bottom < 0:
        shared = -shared
    # Most numbers are short, and this is reckoned often.
    if shared.bit_length() < SHORT_QUOTIENT:
        return (top // shared, bottom // shared)
    return tuple(divided([top, bottom], shared))


def plus(one, other):
    # What divides top and bottom of the sum divides what both bottoms share:
    # looking there alone keeps the divided numbers short.
    shared = common(one[1], other[1])
    top = one[0] * (other[1] // shared) + other[0] * (one[1] // shared)
    low = common(top, shared)
    return (top // low, (one[1] // shared) * (other[1] // low))


def minus(one, other):
    return plus(one, (-other[0], other[1]))


def times(one, other):
    # Each fraction is in lowest terms, so only one's top and the other's bottom can share anything.
    left = common(one[0], other[1])
    right = common(other[0], one[1])
    return ((one[0] // left) * (other[0] // right), (one[1] // right) * (other[1] // left))


def over(one, other):
    return times(one, frac(other[1], other[0]))


def below(one, other):
    return one[0] * other[1] < other[0] * one[1]


def show_frac(one):
    sign = "-" if one[0] < 0 else ""
    top = figures(abs(one[0]))
    if one[1] == 1:
        return sign + top
    return sign + top + "/" + figures(one[1])


def figures(number):
    """A whole number from 0 on, in figures."""
    # Python's own str refuses a number of some thousand figures, so it is shown block by block.
    blocks = []
    while number >= 10 ** 36:
        number, block = divmod(number, 10 ** 36)
        blocks.append(str(block).zfill(36))
    blocks.append(str(number))
    return "".join(blocks[::-1])


def read_frac(text):
    if not isinstance(text, str):
        raise NoFraction("a fraction is read from a text")
    top, stroke, bottom = text.partition("/")
    if not stroke:
        bottom = "1"
    if not is_figures(top.removeprefix("-")) or not is_figures(bottom):
        raise NoFraction("a fraction is written in figures")
    one = (int(top), int(bottom))
    # Each fraction has one text alone, so whatever is shown otherwise was written wrongly.
    if not is_fraction(one) or show_frac(one) != text:
        raise NoFraction("a fraction is written in lowest terms and without more signs than it needs")
    return one


def is_figures(text):
    return 1 <= len(text) <= MOST_FIGURES and all([sign in "0123456789" for sign in text])
