"""Which RULES of a MENU fit what was paid, and which of them can be told apart."""

from itertools import combinations

from touchshare.abreast import Abreast
from touchshare.errors import BadMenu, BadPaid, BadRule
from touchshare.needs import is_journey
from touchshare.rules import KINDS, need_journey, need_rule
from touchshare.sharing import kind_credits
from touchshare.values import is_fraction, is_tuple

MOST_RULES = 4
MOST_PAID = 40


def need_menu(thing):
    """The thing itself if it is a MENU; BadMenu with the number of the first wrong RULE, or None."""
    if not isinstance(thing, tuple) or not 1 <= len(thing) <= MOST_RULES:
        raise BadMenu(None)
    for number, rule in enumerate(thing):
        # The first RULE is judged ahead of all others, so it has KINDS when these are compared.
        if not _is_rule(rule) or rule[KINDS] != thing[0][KINDS]:
            raise BadMenu(number)
    return thing


def fitting_rules(menu, paid):
    """The numbers of the RULES by which all that was paid is so."""
    need_menu(menu)
    _need_paid(menu[0], paid)
    return tuple([number for number, rule in enumerate(menu) if _does_fit(rule, paid)])


def lots(menu):
    """The LOTS of a MENU."""
    need_menu(menu)
    return _lots_by(menu, list(_falls(menu)))


def parted_by(menu, journey):
    """The LOTS into which a MENU falls by a JOURNEY."""
    need_menu(menu)
    need_journey(menu[0], journey)
    return _lots_by(menu, [_fall([kind_credits(rule, journey) for rule in menu])])


def parting_most(menu):
    """A JOURNEY with as few touches as can be by which the MENU falls into as many LOTS as by any."""
    need_menu(menu)
    falls = _falls(menu)
    # The falls stand in the order of how short their JOURNEYS are, so the first one of the greatest has the shortest.
    return falls[max(list(falls), key=lambda fall: len(set(fall)))]


def parting_journeys(menu):
    """As few JOURNEYS as can be of which some one parts each two RULES that are not ALIKE."""
    need_menu(menu)
    falls = _falls(menu)
    sought = _lots_by(menu, list(falls))
    found = [chosen for many in range(len(sought)) for chosen in combinations(list(falls), many)
             if _lots_by(menu, chosen) == sought]
    return tuple([falls[fall] for fall in found[0]])


def _is_rule(value):
    try:
        need_rule(value)
    except BadRule:
        return False
    return True


def _need_paid(rule, value):
    """BadPaid of what is no tuple of what was paid, by the KINDS of a RULE."""
    if not isinstance(value, tuple) or len(value) > MOST_PAID:
        raise BadPaid(None)
    for number, pair in enumerate(value):
        if not _is_paid(rule, pair):
            raise BadPaid(number)


def _is_paid(rule, value):
    """Whether any value is a pair of a JOURNEY and the CREDITS that were paid."""
    if not is_tuple(value, 2) or not is_journey(rule, value[0]) or not is_tuple(value[1], len(rule[KINDS])):
        return False
    return all([is_fraction(amount) for amount in value[1]])


def _does_fit(rule, paid):
    return all([kind_credits(rule, journey) == amounts for journey, amounts in paid])


def _falls(menu):
    """A dict: of each fall of the MENU by some JOURNEY, a JOURNEY as short as can be; the shortest ones first."""
    rows = Abreast(menu)
    came = rows.all_rows()
    firsts = {}
    for row in came:
        firsts.setdefault(_fall(rows.credits_at(row)), row)
    return {fall: rows.journey_to(came, firsts[fall]) for fall in firsts}


def _fall(amounts):
    """How RULES fall by what they credit: of each one the number of the first one that credits the same."""
    return tuple([amounts.index(amount) for amount in amounts])


def _lots_by(menu, falls):
    """The numbers of the RULES in LOTS, those together that no fall parts."""
    together = {}
    for number in range(len(menu)):
        together.setdefault(tuple([fall[number] for fall in falls]), []).append(number)
    return tuple([tuple(lot) for lot in together.values()])
