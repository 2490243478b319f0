"""What is a RULE, and what is a JOURNEY of its kinds."""

from touchshare.errors import BadJourney, BadRule
from touchshare.values import are_integers, is_ascending, is_integer, is_one_of, is_tuple, is_word

# The places of the parts of a RULE.
KINDS = 0
WINDOW = 1
GAP = 2
WEAK = 3
ONCE = 4
PICK = 5
SHARES = 6

MOST_TOUCHES = 200
GREATEST_AGE = 1000000


def need_rule(thing):
    """The thing itself if it is a RULE; BadRule with the first part that is not as told."""
    if not is_tuple(thing, 7):
        raise BadRule("form")
    part = _wrong_part(thing)
    if part is not None:
        raise BadRule(part)
    return thing


def need_journey(rule, thing):
    """The thing itself if it is a JOURNEY; BadJourney with the number of the first wrong touch, or None."""
    need_rule(rule)
    if not isinstance(thing, tuple) or len(thing) > MOST_TOUCHES:
        raise BadJourney(None)
    ahead = GREATEST_AGE
    for number, touch in enumerate(thing):
        if not _is_touch(rule[KINDS], touch, ahead):
            raise BadJourney(number)
        ahead = touch[1]
    return thing


def _wrong_part(things):
    """The name of the first of seven things that is not as a RULE has it, or None."""
    kinds, window, gap, weak, once, pick, shares = things
    # Each part is judged only behind those ahead of it: some hang on these.
    if not _are_kinds(kinds):
        return "kinds"
    if not _is_limit(window, 60):
        return "window"
    if not _is_limit(gap, 24):
        return "gap"
    if not _are_weak(kinds, weak):
        return "weak"
    if not is_one_of(once, ("all", "first", "last")):
        return "once"
    if not _is_pick(pick):
        return "pick"
    if not _is_shares(shares, pick[1]):
        return "shares"
    return None


def _are_kinds(value):
    if not isinstance(value, tuple) or not 1 <= len(value) <= 4:
        return False
    # The words come first: what are no words may have no order.
    return all([is_word(kind) for kind in value]) and is_ascending(value)


def _is_limit(value, greatest):
    return value is None or is_integer(value, 0, greatest)


def _are_weak(kinds, value):
    if not isinstance(value, tuple):
        return False
    return all([is_one_of(kind, kinds) for kind in value]) and is_ascending(value)


def _is_pick(value):
    return is_tuple(value, 2) and is_one_of(value[0], ("first", "last")) and is_integer(value[1], 1, 4)


def _is_shares(value, most):
    """Whether any value is SHARES beside a PICK of at most so many."""
    if not isinstance(value, tuple) or not value or not isinstance(value[0], str):
        return False
    if value[0] == "even":
        return len(value) == 1
    if value[0] == "places":
        return len(value) == 2 and _are_rows(value[1], most)
    if value[0] == "ages":
        return len(value) == 3 and _are_marks(value[1]) and _are_weights(value[2], len(value[1]) + 1)
    return False


def _are_rows(value, most):
    if not is_tuple(value, most):
        return False
    return all([_is_row(row, place + 1) for place, row in enumerate(value)])


def _is_row(value, many):
    return is_tuple(value, many) and are_integers(value, 0, 100) and sum(value) <= 100


def _are_marks(value):
    return are_integers(value, 1, 60) and len(value) <= 3 and is_ascending(value)


def _are_weights(value, many):
    return is_tuple(value, many) and are_integers(value, 0, 9)


def _is_touch(kinds, value, greatest):
    """Whether any value is a TOUCH of one of the kinds, of an AGE that is not above greatest."""
    return is_tuple(value, 2) and is_one_of(value[0], kinds) and is_integer(value[1], 0, greatest)
