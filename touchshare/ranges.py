"""Between what a credit lies if some touches were not seen."""

from touchshare.needs import need_kind, need_number
from touchshare.rules import KINDS, need_journey
from touchshare.unseen import Unseen

MOST_UNSEEN = 3


def unseen_range(rule, journey, kind, many):
    """The pair of the least and the greatest CREDIT of a kind, of all FULL JOURNEYS."""
    _need_all(rule, journey, kind, many)
    amounts = Unseen(rule, journey, many).amounts_of(rule[KINDS].index(kind))
    return (amounts[0], amounts[-1])


def full_journey(rule, journey, kind, many, *, least=False):
    """A FULL JOURNEY with the greatest CREDIT of a kind, or the least one, with as few touches as can be."""
    _need_all(rule, journey, kind, many)
    unseen = Unseen(rule, journey, many)
    number = rule[KINDS].index(kind)
    amounts = unseen.amounts_of(number)
    return unseen.shortest(number, amounts[0] if least else amounts[-1])


def surely_credited(rule, journey, many):
    """The KINDS of which the CREDIT of each FULL JOURNEY is above 0."""
    return tuple([kind for kind, amounts in _amounts_of_kinds(rule, journey, many) if amounts[0][0] > 0])


def perhaps_credited(rule, journey, many):
    """The KINDS of which the CREDIT of some FULL JOURNEY is above 0."""
    return tuple([kind for kind, amounts in _amounts_of_kinds(rule, journey, many) if amounts[-1][0] > 0])


def _need_all(rule, journey, kind, many):
    need_journey(rule, journey)
    need_kind(rule, kind)
    need_number(many, 0, MOST_UNSEEN)


def _amounts_of_kinds(rule, journey, many):
    """Pairs of a KIND and all its CREDITS of all FULL JOURNEYS, ascending as numbers."""
    need_journey(rule, journey)
    need_number(many, 0, MOST_UNSEEN)
    unseen = Unseen(rule, journey, many)
    return [(kind, unseen.amounts_of(number)) for number, kind in enumerate(rule[KINDS])]
