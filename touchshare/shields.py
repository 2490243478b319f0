"""When touches of one kind, the last ones of a journey, keep another kind from all credit."""

from touchshare.errors import BadPaper
from touchshare.needs import is_journey, need_number, need_two_kinds
from touchshare.rules import KINDS
from touchshare.values import is_ascending, is_paper
from touchshare.walks import Walk

MOST_LAST = 100
# If any number of touches shields, so many do.
ENOUGH = 4


def does_shield(rule, kind, other, many):
    """Whether so many last touches of the other kind shield from a kind."""
    need_two_kinds(rule, kind, other)
    need_number(many, 0, MOST_LAST)
    return _has_shield(rule, kind, other, many)


def least_shield(rule, kind, other):
    """The least number of last touches of the other kind that shields from a kind, or None."""
    need_two_kinds(rule, kind, other)
    for many in range(ENOUGH + 1):
        if _has_shield(rule, kind, other, many):
            return many
    return None


def shield_paper(rule, kind, other, many):
    """The paper on it: ("shields", TABLE) or ("fails", JOURNEY)."""
    need_two_kinds(rule, kind, other)
    need_number(many, 0, MOST_LAST)
    walk = Walk(rule)
    last = _last_touches(other, many)
    came = walk.all_from(walk.standing_of(last))
    standing = _first_with_credit(walk, came, rule[KINDS].index(kind))
    if standing is None:
        return ("shields", tuple(sorted(list(came))))
    return ("fails", walk.touches_to(came, standing) + last)


def check_shield(rule, kind, other, many, paper):
    """The word of a paper on it; BadPaper of what is none."""
    need_two_kinds(rule, kind, other)
    need_number(many, 0, MOST_LAST)
    if not is_paper(paper, ("shields", "fails")):
        raise BadPaper("form")
    word, told = paper
    number = rule[KINDS].index(kind)
    last = _last_touches(other, many)
    if word == "shields" and not _is_table(Walk(rule), number, last, told):
        raise BadPaper("shields")
    if word == "fails" and not _is_failing(rule, number, last, told):
        raise BadPaper("fails")
    return word


def _last_touches(kind, many):
    return ((kind, 0),) * many


def _has_shield(rule, kind, other, many):
    walk = Walk(rule)
    came = walk.all_from(walk.standing_of(_last_touches(other, many)))
    return _first_with_credit(walk, came, rule[KINDS].index(kind)) is None


def _first_with_credit(walk, came, number):
    """The first STANDING of those that came at which the KIND of a number has a CREDIT above 0, or None."""
    for standing in came:
        if walk.has_credit(standing, number):
            return standing
    return None


def _is_table(walk, number, last, table):
    """Whether a tuple is a TABLE: of STANDINGS, closed, with those last touches, without CREDIT of a KIND."""
    if not all([walk.has_form(standing) for standing in table]) or not is_ascending(table):
        return False
    rows = {standing: True for standing in table}
    if walk.standing_of(last) not in rows:
        return False
    return all([_is_row(walk, number, rows, standing) for standing in table])


def _is_row(walk, number, rows, standing):
    if walk.has_credit(standing, number):
        return False
    return all([following in rows for _, following in walk.nexts(standing)])


def _is_failing(rule, number, last, journey):
    """Whether a tuple is a JOURNEY that ends with those touches, of which the KIND of a number has a CREDIT."""
    if not is_journey(rule, journey) or journey[len(journey) - len(last):] != last:
        return False
    walk = Walk(rule)
    return walk.has_credit(walk.standing_of(journey), number)
