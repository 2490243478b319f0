"""Whether two RULES are ALIKE, and the paper on it."""

from touchshare.abreast import Abreast
from touchshare.errors import BadPaper, BadRule
from touchshare.needs import is_journey
from touchshare.rules import KINDS, need_rule
from touchshare.sharing import kind_credits
from touchshare.values import is_ascending, is_paper


def are_alike(rule, other):
    """Whether the RULES are ALIKE."""
    return parting(rule, other) is None


def parting(rule, other):
    """A JOURNEY with as few touches as can be of which some kind has unlike CREDITS, or None."""
    _need_rules(rule, other)
    pairs = Abreast([rule, other])
    came = pairs.all_rows()
    return _first_parting(pairs, came)


def like_paper(rule, other):
    """The paper on it: ("alike", TABLE) or ("parts", JOURNEY)."""
    _need_rules(rule, other)
    pairs = Abreast([rule, other])
    came = pairs.all_rows()
    journey = _first_parting(pairs, came)
    if journey is not None:
        return ("parts", journey)
    return ("alike", tuple(sorted([pairs.standings(row) for row in came])))


def check_like(rule, other, paper):
    """The word of a paper on it; BadPaper of what is none."""
    _need_rules(rule, other)
    if not is_paper(paper, ("alike", "parts")):
        raise BadPaper("form")
    word, told = paper
    if word == "alike" and not _is_table(Abreast([rule, other]), told):
        raise BadPaper("alike")
    if word == "parts" and not _does_part(rule, other, told):
        raise BadPaper("parts")
    return word


def _need_rules(rule, other):
    """BadRule of what are no RULES, or not of the same KINDS."""
    need_rule(rule)
    need_rule(other)
    if rule[KINDS] != other[KINDS]:
        raise BadRule("unlike")


def _first_parting(pairs, came):
    """A JOURNEY to the first PAIR of those that came at which the CREDITS are unlike, or None."""
    for row in came:
        if not _is_like(pairs, row):
            return pairs.journey_to(came, row)
    return None


def _is_like(pairs, row):
    one, other = pairs.credits_at(row)
    return one == other


def _is_table(pairs, table):
    """Whether a tuple is a TABLE: of PAIRS, closed, with the first one, of like CREDITS."""
    if not all([pairs.has_form(pair) for pair in table]) or not is_ascending(table):
        return False
    rows = {pairs.row_of(pair): True for pair in table}
    if pairs.first not in rows:
        return False
    return all([_is_like(pairs, row) and _is_closed(pairs, rows, row) for row in rows])


def _is_closed(pairs, rows, row):
    return all([behind in rows for _, behind in pairs.nexts(row)])


def _does_part(rule, other, journey):
    """Whether a tuple is a JOURNEY of which some kind has unlike CREDITS."""
    return is_journey(rule, journey) and kind_credits(rule, journey) != kind_credits(other, journey)
