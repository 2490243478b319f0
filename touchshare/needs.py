"""Arguments that many functions take: what is wrong with them is raised."""

from touchshare.errors import BadJourney, BadKind, BadNumber
from touchshare.rules import KINDS, need_journey, need_rule
from touchshare.values import is_integer, is_one_of


def need_kind(rule, value):
    """BadKind of what is none of the KINDS of a RULE."""
    if not is_one_of(value, rule[KINDS]):
        raise BadKind(value)


def need_two_kinds(rule, kind, other):
    """BadRule of what is no RULE, then BadKind of what are none of its KINDS."""
    need_rule(rule)
    need_kind(rule, kind)
    need_kind(rule, other)


def need_number(value, least, greatest):
    """BadNumber of what is no integer from least to greatest."""
    if not is_integer(value, least, greatest):
        raise BadNumber(value)


def is_journey(rule, value):
    """Whether any value is a JOURNEY of the KINDS of a RULE."""
    try:
        need_journey(rule, value)
    except BadJourney:
        return False
    return True
