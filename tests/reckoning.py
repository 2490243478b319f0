"""A second reckoning, from the words of the document, by sets and by Python's own fractions; rules and journeys."""

import itertools
from fractions import Fraction


def told_reached(rule, journey):
    found = []
    for number, (_, age) in enumerate(journey):
        hours = [0] + [later[1] for later in reversed(journey[number:])]
        near = rule[1] is None or age <= rule[1]
        if near and all(rule[2] is None or back - ahead <= rule[2] for ahead, back in itertools.pairwise(hours)):
            found.append(number)
    return tuple(found)


def told_credited(rule, journey):
    _, _, _, weak, once, (end, many), _ = rule
    near = told_reached(rule, journey)
    count = {number for number in near if journey[number][0] not in weak} or set(near)
    alone = {"first": min, "last": max}
    stay = {
        number for number in count
        if once == "all" or number == alone[once](n for n in count if journey[n][0] == journey[number][0])
    }
    order = sorted(stay, reverse=end == "last")
    return tuple(sorted(order[:many]))


def told_credits(rule, journey):
    chosen = told_credited(rule, journey)
    shares = rule[6]
    found = [Fraction(0)] * len(journey)
    for place, number in enumerate(chosen):
        if shares[0] == "even":
            found[number] = Fraction(1, len(chosen))
        elif shares[0] == "places":
            found[number] = Fraction(shares[1][len(chosen) - 1][place], 100)
        else:
            weights = [shares[2][sum(mark <= journey[n][1] for mark in shares[1])] for n in chosen]
            found[number] = Fraction(weights[place], sum(weights)) if sum(weights) else Fraction(0)
    return found


def as_pair(number):
    return (number.numerator, number.denominator)


def random_rule(chance):
    kinds = tuple(sorted(chance.sample(["ad", "b", "direct", "mail", "z"], chance.randint(1, 4))))
    weak = tuple(kind for kind in kinds if chance.random() < 0.35)
    many = chance.randint(1, 4)
    marks = tuple(sorted(chance.sample(range(1, 61) if chance.random() < 0.5 else range(1, 6), chance.randint(0, 3))))
    rows = []
    for place in range(many):
        cuts = sorted(chance.randint(0, 100) for _ in range(place + 1))
        rows.append(tuple(back - ahead for ahead, back in itertools.pairwise([0] + cuts)))
    shares = chance.choice([
        ("even",), ("places", tuple(rows)),
        ("ages", marks, tuple(chance.choice([0, 0, 1, 2, 3, 9]) for _ in range(len(marks) + 1))),
    ])
    window = chance.choice([None, chance.randint(0, 60), chance.randint(0, 6)])
    gap = chance.choice([None, chance.randint(0, 24), chance.randint(0, 3)])
    return (kinds, window, gap, weak, chance.choice(["all", "first", "last"]), (chance.choice(["first", "last"]), many),
            shares)


def random_journey(chance, kinds):
    many = chance.choice([0, 1, 2, 3, 4, 5, 6, 8, 12])
    greatest = chance.choice([0, 3, 8, 70])
    ages = sorted((chance.randint(0, greatest) for _ in range(many)), reverse=True)
    return tuple((chance.choice(kinds), age) for age in ages)


def told_hours(rule):
    far = max([0] + ([rule[1] + 1] if rule[1] is not None else []) + list(told_marks(rule)[-1:]))
    return far, max([far] + ([rule[2] + 1] if rule[2] is not None else []))


def told_marks(rule):
    return rule[6][1] if rule[6][0] == "ages" else ()


def told_standing(rule, journey):
    """The STANDING behind a whole JOURNEY, by looking at all of it."""
    kinds, _, _, weak, once, (end, many), _ = rule
    far, _ = told_hours(rule)
    near = told_reached(rule, journey)

    def told(numbers):
        alone = {"first": min, "last": max}
        stay = [number for number in numbers
                if once == "all" or number == alone[once](n for n in numbers if journey[n][0] == journey[number][0])]
        if once == "all":
            stay = sorted(sorted(stay, reverse=end == "last")[:many])
        return tuple((kinds.index(journey[n][0]), sum(mark <= journey[n][1] for mark in told_marks(rule)))
                     for n in stay)

    out = int(any(number not in near for number in range(len(journey))))
    age = far if out else min([far] + [age for _, age in journey[:1]]) if journey else 0
    return (age, out, told([n for n in near if journey[n][0] not in weak]),
            told([n for n in near if journey[n][0] in weak]))


def told_kind_credits(rule, journey):
    found = {kind: Fraction(0) for kind in rule[0]}
    for (kind, _), part in zip(journey, told_credits(rule, journey)):
        found[kind] += part
    return tuple(found[kind] for kind in rule[0])


def longer(rule, journey):
    """All JOURNEYS with a TOUCH more, D hours further back, D from 0 to REACH."""
    age = journey[0][1] if journey else 0
    return [((kind, age + distance),) + journey for kind in rule[0] for distance in range(told_hours(rule)[1] + 1)]


def told_standings(rule, first=()):
    """Of all STANDINGS that come of JOURNEYS that end with some TOUCHES a JOURNEY each, as short as can be.

    They are told in the order of their lengths. That a STANDING hangs on the one ahead alone is used here: only one
    JOURNEY of each STANDING is made longer.
    """
    found = {told_standing(rule, first): first}
    layer = [first]
    while layer:
        further = []
        for journey in layer:
            for more in longer(rule, journey):
                standing = told_standing(rule, more)
                if standing not in found:
                    found[standing] = more
                    further.append(more)
        layer = further
    return found


def small_rules():
    """Rules of few STANDINGS, of each ONCE, each PICK, each of SHARES, with and without WEAK, WINDOW and GAP."""
    parts = itertools.product(
        (("a", "b"),), (None, 0, 1, 2), (None, 0, 1), ((), ("b",), ("a", "b")), ("all", "first", "last"),
        (("first", 1), ("last", 1), ("first", 2), ("last", 2)))
    for number, (kinds, window, gap, weak, once, pick) in enumerate(parts):
        rows = ((100,), (30, 60))[:pick[1]]
        shares = (("even",), ("places", rows), ("ages", (1,), (3, 0)), ("ages", (1, 2), (0, 2, 1)), ("ages", (), (1,)))
        yield (kinds, window, gap, weak, once, pick, shares[number % 5])


def smallest_rules(chance, many):
    """So many rules of two kinds "a" and "b" and of few hours, and with few STANDINGS."""
    found = []
    while len(found) < many:
        end, most = chance.choice(["first", "last"]), chance.choice([1, 1, 2, 3])
        rows = [[chance.choice([0, 10, 30]) for _ in range(place + 1)] for place in range(most)]
        marks = tuple(sorted(chance.sample(range(1, 4), chance.choice([0, 1, 1, 2]))))
        shares = chance.choice([("even",), ("places", tuple(map(tuple, rows))),
                                ("ages", marks, tuple(chance.choice([0, 1, 2, 5]) for _ in range(len(marks) + 1)))])
        found.append((("a", "b"), chance.choice([None, 0, 1, 2, 3]), chance.choice([None, None, 0, 1, 2]),
                      chance.choice([(), (), ("a",), ("b",), ("a", "b")]), chance.choice(["all", "first", "last"]),
                      (end, most), shares))
    return found


def all_journeys(kinds, greatest, many):
    """All JOURNEYS of at most so many TOUCHES, of AGES up to the greatest, the shortest ones first."""
    for length in range(many + 1):
        for ages in itertools.combinations_with_replacement(range(greatest, -1, -1), length):
            for names in itertools.product(kinds, repeat=length):
                yield tuple(zip(names, ages))


def all_put_in(journey, kind, greatest):
    """All pairs of a JOURNEY with a TOUCH of a kind put in, of an AGE up to the greatest, and of its number."""
    for place in range(len(journey) + 1):
        first = journey[place][1] if place < len(journey) else 0
        last = journey[place - 1][1] if place else greatest
        for age in range(first, last + 1):
            yield journey[:place] + ((kind, age),) + journey[place:], place


def told_all(first, nexts):
    """Of all things that come of a first one, by what they are told by, one each; as few steps as can be."""
    state, told = first
    found = {told: state}
    layer = [state]
    while layer:
        further = []
        for state in layer:
            for more, told in nexts(state):
                if told not in found:
                    found[told] = more
                    further.append(more)
        layer = further
    return found


def told_rows(rules):
    """Of all tuples of STANDINGS of some rules a JOURNEY each, as short as can be."""
    reach = max(told_hours(rule)[1] for rule in rules)

    def told(journey):
        return tuple(told_standing(rule, journey) for rule in rules)

    def nexts(journey):
        age = journey[0][1] if journey else 0
        more = [((kind, age + distance),) + journey for kind in rules[0][0] for distance in range(reach + 1)]
        return [(longer_one, told(longer_one)) for longer_one in more]

    return told_all(((), told(())), nexts)


def without(journey, number):
    return journey[:number] + journey[number + 1:]


def told_track(rule, journey, number):
    """The TRACK of a JOURNEY with the TOUCH of a number put in, or without one put in if the number is None."""
    if number is None:
        return (told_standing(rule, journey),) * 2 + (0, 0)
    slack = 0
    if number == 0:
        slack = min(journey[0][1] - (journey[1][1] if len(journey) > 1 else 0), told_hours(rule)[1])
    return (told_standing(rule, without(journey, number)), told_standing(rule, journey), slack, 1)


def told_tracks(rule, other):
    """Of all TRACKS a pair each: a JOURNEY with the TOUCH put in, as short as can be, and its number or None."""
    def nexts(state):
        journey, number = state
        age = journey[0][1] if journey else 0
        for distance in range(told_hours(rule)[1] + 1):
            for kind in rule[0]:
                more = ((kind, age + distance),) + journey
                place = None if number is None else number + 1
                yield (more, place), told_track(rule, more, place)
            if number is None:
                more = ((other, age + distance),) + journey
                yield (more, 0), told_track(rule, more, 0)

    return told_all((((), None), told_track(rule, (), None)), nexts)


def told_gain(rule, journey, number, kind):
    place = rule[0].index(kind)
    return told_kind_credits(rule, journey)[place] - told_kind_credits(rule, without(journey, number))[place]
