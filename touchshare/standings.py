"""The STANDINGS of a RULE: what it counts behind the last touches of a journey, looking back."""

from touchshare.errors import BadStanding
from touchshare.needs import need_kind, need_number
from touchshare.rules import GREATEST_AGE, KINDS, need_journey, need_rule
from touchshare.walks import FIRST, Walk


def hours(rule):
    """The pair of FAR and REACH."""
    need_rule(rule)
    walk = Walk(rule)
    return (walk.far, walk.reach)


def is_standing(rule, value):
    """Whether any value has the form of a STANDING."""
    need_rule(rule)
    return Walk(rule).has_form(value)


def first_standing(rule):
    """The STANDING behind no touches."""
    need_rule(rule)
    return FIRST


def behind(rule, standing, kind, distance):
    """The STANDING behind a touch more, so many hours further back."""
    walk = _need_standing(rule, standing)
    need_kind(rule, kind)
    need_number(distance, 0, GREATEST_AGE)
    return walk.step(standing, rule[KINDS].index(kind), distance)


def standing_of(rule, journey):
    """The STANDING behind a whole JOURNEY."""
    need_journey(rule, journey)
    return Walk(rule).standing_of(journey)


def credits_at(rule, standing):
    """The CREDITS of all kinds at a STANDING."""
    return _need_standing(rule, standing).credits_at(standing)


def standings(rule):
    """All STANDINGS of the RULE, ascending; TooGreat of more than 20,000."""
    need_rule(rule)
    return tuple(sorted(list(Walk(rule).all_from(FIRST))))


def journey_to(rule, standing):
    """A JOURNEY with as few touches as can be that has this STANDING, or None."""
    walk = _need_standing(rule, standing)
    came = walk.all_from(FIRST)
    if standing not in came:
        return None
    return walk.touches_to(came, standing)


def _need_standing(rule, standing):
    """The Walk by a RULE; BadStanding of what has not the form of a STANDING of it."""
    need_rule(rule)
    walk = Walk(rule)
    if not walk.has_form(standing):
        raise BadStanding(standing)
    return walk
