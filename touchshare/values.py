"""Plain values: integers, words, tuples in order, fractions."""

from math import gcd


def is_integer(value, least, greatest):
    """Whether any value is an integer from least to greatest."""
    # To Python True and False are integers; here they are none.
    if not isinstance(value, int) or isinstance(value, bool):
        return False
    return least <= value <= greatest


def is_word(value):
    """Whether any value is a word: 1 to 6 letters from a to z."""
    if not isinstance(value, str) or not 1 <= len(value) <= 6:
        return False
    return all(["a" <= sign <= "z" for sign in value])


def is_one_of(value, words):
    """Whether any value is a string that is one of some words."""
    return isinstance(value, str) and value in words


def is_tuple(value, many):
    """Whether any value is a tuple of so many things."""
    return isinstance(value, tuple) and len(value) == many


def are_integers(value, least, greatest):
    """Whether any value is a tuple of integers from least to greatest."""
    return isinstance(value, tuple) and all([is_integer(one, least, greatest) for one in value])


def is_ascending(things):
    """Whether each of the things is greater than the one ahead."""
    return all([ahead < thing for ahead, thing in zip(things, things[1:])])


def fraction(part, of):
    """The FRACTION that is part of so many, of being above 0."""
    divisor = gcd(part, of)
    return (part // divisor, of // divisor)
