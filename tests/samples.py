"""What several tests use: things of every kind that are refused, rules, journeys."""

from collections import namedtuple


class Unshowable:
    """A thing that can not be shown, nor compared."""

    def __repr__(self):
        raise RuntimeError("can not be shown")

    __str__ = __repr__

    def __eq__(self, other):
        raise RuntimeError("can not be compared")

    __hash__ = None


class EqualToAll:
    """A thing that claims to be the same as any other one."""

    def __eq__(self, other):
        return True

    def __le__(self, other):
        return True

    __lt__ = __gt__ = __ge__ = __le__

    def __hash__(self):
        return hash("last")


class LikeTuple:
    """A thing that has a length and items, and is no tuple."""

    def __init__(self, *things):
        self.things = things

    def __len__(self):
        return len(self.things)

    def __getitem__(self, place):
        return self.things[place]

    def __iter__(self):
        return iter(self.things)


class LikeInteger:
    """A thing that counts as an integer for Python's indexes, and is none."""

    def __index__(self):
        return 1

    __int__ = __index__


Seven = namedtuple("Seven", "a b c d e f g")


def odd_things():
    """Things that are no part of a rule and no touch, new ones with each call."""
    return [
        True, False, -1, 10 ** 40, -(10 ** 40), "", "no", "ALL", "percent", "\n", b"", b"all", b"last", [], [1],
        ["last", 1], {}, {"a": 1}, set(), {1}, frozenset(), (), (1,), ("a",) * 9, ((),), ((((),),),), (None, None),
        object(), Unshowable(), EqualToAll(), LikeTuple("last", 1), LikeInteger(), range(3), iter([]), len, int, ...,
        NotImplemented, ValueError("a"), complex(1, 0), bytearray(b"a"), (Unshowable(), Unshowable()),
    ]


EVEN = (("ad", "direct", "mail"), None, None, (), "all", ("last", 4), ("even",))


def rule_with(**parts):
    """An ordinary rule with some parts changed."""
    names = ("kinds", "window", "gap", "weak", "once", "pick", "shares")
    return tuple(parts.get(name, part) for name, part in zip(names, EVEN))

FOUR = ("a", "b", "c", "d")

# Of FOUR kinds, of which each of the last four counts: 340 * (WINDOW + 2) + 2 STANDINGS.
GREAT = (FOUR, 56, None, (), "all", ("last", 4), ("even",))
TOO_GREAT = (FOUR, 57, None, (), "all", ("last", 4), ("even",))

# 19,350 TRACKS come of each kind that is put in; with an hour more in WINDOW more than 20,000.
MOST_TRACKS = (("a", "b", "c"), 37, None, (), "all", ("last", 2), ("even",))
MORE_TRACKS = (("a", "b", "c"), 38, None, (), "all", ("last", 2), ("even",))


def wrong_rules():
    """Pairs of what is no rule, and of the part that is told."""
    return [
        (None, "form"), (EVEN[:6], "form"), (list(EVEN), "form"), (rule_with(kinds=()), "kinds"),
        (rule_with(window=61), "window"), (rule_with(window=True), "window"), (rule_with(gap=25), "gap"),
        (rule_with(weak=("no",)), "weak"), (rule_with(once="any"), "once"), (rule_with(pick=("last", 5)), "pick"),
        (rule_with(shares=("odd",)), "shares"), (rule_with(window=-1, shares=()), "window"),
    ]
