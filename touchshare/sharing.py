"""How a RULE shares the credit among the touches of a JOURNEY."""

from touchshare.rules import GAP, KINDS, ONCE, PICK, SHARES, WEAK, WINDOW, need_journey
from touchshare.values import fraction


def reached(rule, journey):
    """The numbers of the touches that are reached."""
    need_journey(rule, journey)
    return tuple(_reached_places(rule, journey))


def credited(rule, journey):
    """The numbers of the touches that are credited."""
    need_journey(rule, journey)
    return tuple(_credited_places(rule, journey))


def touch_credits(rule, journey):
    """The CREDITS of all touches."""
    need_journey(rule, journey)
    parts, whole = touch_parts(rule, journey)
    return tuple([fraction(part, whole) for part in parts])


def kind_credits(rule, journey):
    """The CREDITS of all kinds, in their order."""
    need_journey(rule, journey)
    parts, whole = touch_parts(rule, journey)
    of_kinds = {kind: 0 for kind in rule[KINDS]}
    for touch, part in zip(journey, parts):
        of_kinds[touch[0]] += part
    return tuple([fraction(of_kinds[kind], whole) for kind in rule[KINDS]])


def all_given(rule, journey):
    """What is GIVEN of the JOURNEY."""
    need_journey(rule, journey)
    parts, whole = touch_parts(rule, journey)
    return fraction(sum(parts), whole)


def touch_parts(rule, journey):
    """A pair: of each touch how many parts it has, and how many are the whole.

    Nothing is judged here, so the JOURNEY may be longer than callers may hand it in.
    """
    chosen = _credited_places(rule, journey)
    classes = [age_class(rule, journey[place][1]) for place in chosen]
    chosen_parts, whole = shared_parts(rule, classes)
    parts = [0] * len(journey)
    for place, part in zip(chosen, chosen_parts):
        parts[place] = part
    return parts, whole


def age_class(rule, age):
    """The CLASS of an AGE: how many MARKS are at most it; 0 without "ages"."""
    if rule[SHARES][0] != "ages":
        return 0
    return len([mark for mark in rule[SHARES][1] if mark <= age])


def shared_parts(rule, classes):
    """A pair: of each credited touch, told in time by its CLASS, its parts, and how many are the whole."""
    shares = rule[SHARES]
    if not classes:
        return [], 1
    if shares[0] == "even":
        return [1] * len(classes), len(classes)
    if shares[0] == "places":
        return list(shares[1][len(classes) - 1]), 100
    weights = [shares[2][number] for number in classes]
    # Where all weights are 0 all have 0, of whatever whole but 0.
    return weights, max(1, sum(weights))


def staying(rule, names):
    """Of touches in time, told by what names their kinds, the places of those that stay by ONCE."""
    once = rule[ONCE]
    if once == "first":
        return [place for place, name in enumerate(names) if name not in names[:place]]
    if once == "last":
        return [place for place, name in enumerate(names) if name not in names[place + 1:]]
    return list(range(len(names)))


def picked(rule, things):
    """Of a list in time, those that PICK takes."""
    end, many = rule[PICK]
    if end == "first":
        return things[:many]
    return things[-many:]


def _reached_places(rule, journey):
    """The numbers of the touches that are reached: those from some one on to the last one."""
    first = len(journey)
    looked_at = 0
    for _, age in reversed(journey):
        if not _is_within(age, rule[WINDOW]) or not _is_within(age - looked_at, rule[GAP]):
            break
        first -= 1
        looked_at = age
    return list(range(first, len(journey)))


def _is_within(hours, limit):
    return limit is None or hours <= limit


def _counting_places(rule, journey):
    near = _reached_places(rule, journey)
    strong = [place for place in near if journey[place][0] not in rule[WEAK]]
    return strong or near


def _credited_places(rule, journey):
    counting = _counting_places(rule, journey)
    kinds = [journey[place][0] for place in counting]
    return picked(rule, [counting[place] for place in staying(rule, kinds)])
