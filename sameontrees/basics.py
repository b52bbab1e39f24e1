"""Integers, ratios, names and tuples: what the other files judge things by and count with."""

from math import gcd, lcm

LONGEST_NAME = 10
WORDS_KEPT = ("fun", "kind", "number")


def is_integer(thing):
    """Whether thing is an integer, which True and False are not."""
    return isinstance(thing, int) and not isinstance(thing, bool)


def is_tuple(thing, least, most):
    """Whether thing is a tuple of least to most entries."""
    return isinstance(thing, tuple) and least <= len(thing) <= most


def is_below(thing, limit):
    """Whether thing is an integer from 0 to below the limit."""
    return is_integer(thing) and 0 <= thing < limit


def is_ratio(thing):
    """Whether thing is a ratio: top and bottom without a common divisor above 1."""
    if not is_tuple(thing, 2, 2):
        return False
    top, bottom = thing
    return is_integer(top) and is_integer(bottom) and bottom >= 1 and gcd(top, bottom) == 1


def is_name(thing):
    """Whether thing is a name, low or high."""
    if not isinstance(thing, str) or len(thing) > LONGEST_NAME:
        return False
    return is_run(thing) and thing[0].isalpha() and thing not in WORDS_KEPT


def is_low(thing):
    """Whether thing is a name that begins with a small letter."""
    return is_name(thing) and thing[0].islower()


def is_high(thing):
    """Whether thing is a name that begins with a capital letter."""
    return is_name(thing) and thing[0].isupper()


def is_run(text):
    """Whether text is one or more letters (a to z, A to Z) and digits."""
    return text.isascii() and text.isalnum()


def ratio_of(top, bottom):
    """The ratio that top is to bottom, which is not 0."""
    shared = gcd(top, bottom) if bottom > 0 else -gcd(top, bottom)
    return (top // shared, bottom // shared)


def sum_of(ratios):
    """The sum of the ratios."""
    tops, bottom = scaled(ratios)
    return ratio_of(sum(tops), bottom)


def product_of(ratios):
    """The product of the ratios."""
    top = 1
    bottom = 1
    for one, other in ratios:
        top *= one
        bottom *= other
    return ratio_of(top, bottom)


def times_vector(one, other):
    """The sum of the products, entry by entry."""
    return sum_of([product_of(pair) for pair in zip(one, other)])


def unit(dim, place):
    """The vector that is 1 at the place and 0 else."""
    return tuple([(1, 1) if at == place else (0, 1) for at in range(dim)])


def scaled(ratios):
    """A list of integers and the bottom by which they are the ratios."""
    bottom = 1
    for _, part in ratios:
        bottom = lcm(bottom, part)
    return ([top * (bottom // part) for top, part in ratios], bottom)


def summed(pairs):
    """A dict with the sum of the ratios for each key of the pairs (key, ratio), 0 left out."""
    gathered = {}
    for key, ratio in pairs:
        gathered.setdefault(key, []).append(ratio)
    sums = {key: sum_of(ratios) for key, ratios in gathered.items()}
    return {key: ratio for key, ratio in sums.items() if ratio[0] != 0}
