"""WISHES: what a RULE shall be like, and what no RULE of a MENU is all at once."""

from itertools import combinations

from touchshare.errors import BadWishes
from touchshare.menus import need_menu
from touchshare.needs import need_number
from touchshare.rules import KINDS, WINDOW, need_rule
from touchshare.shields import ENOUGH, does_shield
from touchshare.tracks import PUT, Tracks
from touchshare.values import is_ascending, is_one_of
from touchshare.wholes import givings_of, is_whole

WISHES = ("fair", "firm", "modest", "open", "whole")
GREATEST_WINDOW = 12


def wishes_of(rule):
    """All WISHES that a RULE has."""
    need_rule(rule)
    return _wishes_of(rule)


def does_quarrel(menu, wishes):
    """Whether a MENU quarrels with WISHES: none of its RULES has all of them."""
    need_menu(menu)
    _need_wishes(wishes)
    return _is_quarrel(_all_wishes(menu), wishes)


def quarrels(menu):
    """All WISHES with which a MENU quarrels, and no longer if any one of them is left out."""
    need_menu(menu)
    had = _all_wishes(menu)
    return tuple(sorted([wishes for many in range(len(WISHES) + 1) for wishes in combinations(list(WISHES), many)
                         if _is_least_quarrel(had, wishes)]))


def least_window(rule, wishes, greatest):
    """The least WINDOW, up to the greatest, by which the RULE, all else the same, has all of the WISHES, or None."""
    need_rule(rule)
    _need_wishes(wishes)
    need_number(greatest, 0, GREATEST_WINDOW)
    for window in range(greatest + 1):
        if _has_all(_wishes_of(_with_window(rule, window)), wishes):
            return window
    return None


def _need_wishes(value):
    """BadWishes of what is no ascending tuple of WISHES."""
    if not isinstance(value, tuple) or not all([is_one_of(word, WISHES) for word in value]) or not is_ascending(value):
        raise BadWishes(value)


def _all_wishes(menu):
    """The list of the WISHES that each RULE of a MENU has."""
    return [_wishes_of(rule) for rule in menu]


def _is_quarrel(had, wishes):
    return not any([_has_all(some, wishes) for some in had])


def _is_least_quarrel(had, wishes):
    if not _is_quarrel(had, wishes):
        return False
    fewer = [wishes[:place] + wishes[place + 1:] for place in range(len(wishes))]
    return not any([_is_quarrel(had, some) for some in fewer])


def _has_all(had, wishes):
    return all([word in had for word in wishes])


def _with_window(rule, window):
    return rule[:WINDOW] + (window,) + rule[WINDOW + 1:]


def _wishes_of(rule):
    """All WISHES that a RULE has, whichever are asked for: too many TRACKS are too many in any case."""
    gains = [_own_amounts(rule, number) for number in range(len(rule[KINDS]))]
    has = {
        "whole": is_whole(rule), "open": _is_open(rule), "fair": _is_fair(rule),
        "firm": all([_is_firm(pairs) for pairs in gains]), "modest": all([_is_modest(pairs) for pairs in gains]),
    }
    return tuple([word for word in WISHES if has[word]])


def _own_amounts(rule, number):
    """The CREDITS of the KIND of a number without a touch of its own put in, and with it: all pairs that come."""
    tracks = Tracks(rule, rule[KINDS][number])
    pairs = {tracks.both_credits(track, number): True for track in tracks.all_tracks() if track[PUT] == 1}
    return list(pairs)


def _is_firm(pairs):
    return all([not _is_less(among, without) for without, among in pairs])


def _is_modest(pairs):
    return all([without[0] == 0 or not _is_less(without, among) for without, among in pairs])


def _is_less(one, other):
    return one[0] * other[1] < other[0] * one[1]


def _is_open(rule):
    return all([givings_of(rule, kind)[-1][0] > 0 for kind in rule[KINDS]])


def _is_fair(rule):
    """Whether no number of touches of a kind shields from another one; if any number does, ENOUGH do."""
    return not any([does_shield(rule, kind, other, ENOUGH)
                    for kind in rule[KINDS] for other in rule[KINDS] if other != kind])
