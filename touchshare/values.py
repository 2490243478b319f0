"""Plain values: integers, words, tuples in order, fractions."""

from math import gcd, lcm

# No integer of a text or a line has more.
MOST_FIGURES = 7


def is_integer(value, least, greatest):
    """Whether any value is an integer from least to greatest."""
    return is_at_least(value, least) and value <= greatest


def is_at_least(value, least):
    """Whether any value is an integer from least on."""
    return is_any_integer(value) and least <= value


def is_any_integer(value):
    """Whether any value is an integer."""
    # To Python True and False are integers; here they are none.
    return isinstance(value, int) and not isinstance(value, bool)


def is_word(value):
    """Whether any value is a word: 1 to 6 letters from a to z."""
    if not isinstance(value, str) or not 1 <= len(value) <= 6:
        return False
    return all(["a" <= sign <= "z" for sign in value])


def written_integer(word):
    """The integer from 0 on that a string is in decimal, of at most 7 figures without a 0 ahead, or None."""
    if not 1 <= len(word) <= MOST_FIGURES or not all(["0" <= sign <= "9" for sign in word]):
        return None
    if word[0] == "0" and word != "0":
        return None
    return int(word)


def is_one_of(value, words):
    """Whether any value is a string that is one of some words."""
    return isinstance(value, str) and value in words


def is_tuple(value, many):
    """Whether any value is a tuple of so many things."""
    return isinstance(value, tuple) and len(value) == many


def are_integers(value, least, greatest):
    """Whether any value is a tuple of integers from least to greatest."""
    return isinstance(value, tuple) and all([is_integer(one, least, greatest) for one in value])


def is_ascending(things):
    """Whether each of the things is greater than the one ahead."""
    return all([ahead < thing for ahead, thing in zip(things, things[1:])])


def is_fraction(value):
    """Whether any value is a FRACTION."""
    if not is_tuple(value, 2) or not is_at_least(value[1], 1):
        return False
    return is_any_integer(value[0]) and gcd(value[0], value[1]) == 1


def is_share(value):
    """Whether any value is a FRACTION from 0 to 1."""
    return is_fraction(value) and 0 <= value[0] <= value[1]


def is_paper(value, words):
    """Whether any value is a pair of one of some words and a tuple."""
    return is_tuple(value, 2) and is_one_of(value[0], words) and isinstance(value[1], tuple)


def fraction(part, of):
    """The FRACTION that is part of so many, of being above 0."""
    divisor = gcd(part, of)
    return (part // divisor, of // divisor)


def fraction_sum(one, other):
    """The sum of two FRACTIONS."""
    return fraction(one[0] * other[1] + other[0] * one[1], one[1] * other[1])


def fraction_less(one, other):
    """The first FRACTION less the other one, perhaps below 0."""
    return fraction_sum(one, (-other[0], other[1]))


def ordered_fractions(fractions):
    """The tuple of a list of FRACTIONS, none of them twice, ascending as numbers."""
    common = 1
    for _, of in fractions:
        common = lcm(common, of)
    # As parts of one common whole they have the order of integers.
    by_size = {part * (common // of): (part, of) for part, of in fractions}
    return tuple([by_size[size] for size in sorted(list(by_size))])
