"""What can be given by a RULE at all, and whether it always gives the whole."""

from touchshare.errors import BadFraction
from touchshare.needs import need_kind
from touchshare.rules import KINDS, need_rule
from touchshare.values import is_share, ordered_fractions
from touchshare.walks import FIRST, Walk

WHOLE = (1, 1)


def givings(rule):
    """All FRACTIONS that can be given, ascending as numbers."""
    need_rule(rule)
    walk = Walk(rule)
    return ordered_fractions([walk.given_at(standing) for standing in walk.all_from(FIRST)])


def givings_of(rule, kind):
    """All FRACTIONS that a kind can have, ascending as numbers."""
    need_rule(rule)
    need_kind(rule, kind)
    walk = Walk(rule)
    number = rule[KINDS].index(kind)
    return ordered_fractions([walk.credits_at(standing)[number] for standing in walk.all_from(FIRST)])


def journey_giving(rule, fraction):
    """A JOURNEY with as few touches as can be of which a FRACTION is GIVEN, or None."""
    need_rule(rule)
    if not is_share(fraction):
        raise BadFraction(fraction)
    walk = Walk(rule)
    return _first_journey(walk, lambda standing: walk.given_at(standing) == fraction)


def is_whole(rule):
    """Whether 1 is GIVEN of each JOURNEY of which some touch is reached."""
    return unwhole(rule) is None


def unwhole(rule):
    """A JOURNEY with as few touches as can be of which some touch is reached, and not 1 GIVEN, or None."""
    need_rule(rule)
    walk = Walk(rule)
    return _first_journey(walk, lambda standing: walk.has_reached(standing) and walk.given_at(standing) != WHOLE)


def _first_journey(walk, is_sought):
    """A JOURNEY with as few touches as can be to a STANDING that is sought, or None."""
    came = walk.all_from(FIRST)
    for standing in came:
        if is_sought(standing):
            return walk.touches_to(came, standing)
    return None
