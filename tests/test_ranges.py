"""touchshare.ranges: by hand, beside a second reckoning that puts touches in one by one, and what is refused."""

import copy
import itertools
import random
import unittest
from fractions import Fraction

from tests.reckoning import (all_put_in, as_pair, random_journey, random_rule, smallest_rules, told_hours,
                             told_kind_credits, told_standing)
from tests.refusals import check_names, check_refusals
from tests.samples import EVEN, FOUR, TOO_GREAT, EqualToAll, LikeInteger, odd_things, rule_with, wrong_rules
from touchshare.errors import BadJourney, BadKind, BadNumber, BadRule
from touchshare.ranges import full_journey, perhaps_credited, surely_credited, unseen_range
from touchshare.sharing import touch_parts

NONE, HALF, WHOLE = (0, 1), (1, 2), (1, 1)
LAST = rule_with(pick=("last", 1))
GREATEST = 10 ** 6
SOME = (("ad", 9), ("mail", 4), ("ad", 4))
NO_MANY = [thing for thing in odd_things()] + [None, -1, 4, 5, 10 ** 39, "1", (1,), [1], LikeInteger()]


def long_credit(rule, journey, kind):
    """The CREDIT of a kind of a JOURNEY that may have more touches than can be handed in."""
    parts, whole = touch_parts(rule, journey)
    return Fraction(sum(part for (name, _), part in zip(journey, parts) if name == kind), whole)


def all_full(rule, journey, many, greatest):
    """All FULL JOURNEYS with AGES up to the greatest, by putting touches in one by one."""
    found = layer = {journey}
    for _ in range(many):
        layer = {more for one in layer for kind in rule[0] for more, _ in all_put_in(one, kind, greatest)}
        found = found | layer
    return found


class Ranges(unittest.TestCase):
    def check_full(self, rule, journey, kind, many):
        """Both ends of the range, and their FULL JOURNEYS."""
        least, greatest = unseen_range(rule, journey, kind, many)
        self.assertLessEqual(Fraction(*least), Fraction(*greatest))
        self.assertIs(kind in surely_credited(rule, journey, many), least[0] > 0)
        self.assertIs(kind in perhaps_credited(rule, journey, many), greatest[0] > 0)
        found = []
        for wanted, amount in ((False, greatest), (True, least)):
            full = full_journey(rule, journey, kind, many, least=wanted)
            self.check_is_full(rule, journey, many, full)
            self.assertEqual(told_kind_credits(rule, full)[rule[0].index(kind)], Fraction(*amount))
            found.append(len(full))
        self.assertEqual(full_journey(rule, journey, kind, many), full_journey(rule, journey, kind, many, least=False))
        return (least, greatest), tuple(found)

    def check_is_full(self, rule, journey, many, full):
        self.assertIsInstance(full, tuple)
        self.assertLessEqual(len(full), len(journey) + many)
        touches = iter(full)
        self.assertTrue(all(touch in touches for touch in journey))
        for touch in full:
            self.assertIs(type(touch), tuple)
            self.assertIn(touch[0], rule[0])
            self.assertTrue(type(touch[1]) is int and 0 <= touch[1] <= GREATEST)
        ages = [age for _, age in full]
        self.assertEqual(ages, sorted(ages, reverse=True))


class ByHand(Ranges):
    def test_the_last_one(self):
        for many in (1, 2, 3):
            self.assertEqual(unseen_range(LAST, SOME, "ad", many), (NONE, WHOLE))
            self.assertEqual(unseen_range(LAST, SOME, "mail", many), (NONE, WHOLE))
            self.assertEqual(surely_credited(LAST, SOME, many), ())
            self.assertEqual(perhaps_credited(LAST, SOME, many), ("ad", "direct", "mail"))
            self.assertEqual(full_journey(LAST, SOME, "ad", many), SOME)
            self.assertEqual(full_journey(LAST, SOME, "direct", many, least=True), SOME)
            self.assertEqual(len(full_journey(LAST, SOME, "direct", many)), 4)
        self.assertEqual(unseen_range(LAST, SOME, "ad", 0), (WHOLE, WHOLE))
        self.assertEqual(unseen_range(LAST, SOME, "mail", 0), (NONE, NONE))
        self.assertEqual(surely_credited(LAST, SOME, 0), ("ad",))
        self.assertEqual(perhaps_credited(LAST, SOME, 0), ("ad",))

    def test_some_are_surely_credited(self):
        journey = (("ad", 3), ("ad", 2), ("ad", 1), ("ad", 0))
        for many in (0, 1, 2, 3):
            self.assertEqual(unseen_range(EVEN, journey, "ad", many), ((4 - many, 4) if many not in (0, 2) else (
                WHOLE if many == 0 else HALF), WHOLE))
            self.assertEqual(surely_credited(EVEN, journey, many), ("ad",))
            self.assertEqual(perhaps_credited(EVEN, journey, many), ("ad",) if many == 0 else EVEN[0])
            self.assertEqual(len(full_journey(EVEN, journey, "ad", many, least=True)), 4 + many)
            self.assertEqual(full_journey(EVEN, journey, "ad", many), journey)
        weak = rule_with(weak=("direct", "mail"))
        for many in (0, 1, 2, 3):
            self.assertEqual(unseen_range(weak, journey[:1], "ad", many), (WHOLE, WHOLE))
            self.assertEqual(perhaps_credited(weak, journey[:1], many), ("ad",))

    def test_no_touches_at_all(self):
        self.assertEqual(unseen_range(EVEN, (), "ad", 0), (NONE, NONE))
        self.assertEqual(full_journey(EVEN, (), "ad", 0), ())
        self.assertEqual(unseen_range(EVEN, (), "ad", 3), (NONE, WHOLE))
        self.assertEqual(full_journey(EVEN, (), "ad", 3, least=True), ())
        self.assertEqual([kind for kind, _ in full_journey(EVEN, (), "ad", 3)], ["ad"])
        self.assertEqual(surely_credited(EVEN, (), 3), ())
        self.assertEqual(perhaps_credited(EVEN, (), 1), EVEN[0])
        self.assertEqual(perhaps_credited(EVEN, (), 0), ())

    def test_a_pause_that_is_filled(self):
        rule = (("a", "b"), None, 5, (), "all", ("first", 1), ("even",))
        journey = (("a", 20), ("b", 0))
        for many, most, touches in ((0, NONE, 2), (1, WHOLE, 3), (2, WHOLE, 3), (3, WHOLE, 3)):
            # An "a" put in behind "b" is the first one that is reached, too.
            self.assertEqual(unseen_range(rule, journey, "a", many), (NONE, most))
            self.assertEqual(len(full_journey(rule, journey, "a", many)), touches)
        rule = (("a", "b"), None, 5, ("b",), "all", ("first", 1), ("ages", (20,), (0, 1)))
        for many, most in ((0, NONE), (1, NONE), (2, NONE), (3, WHOLE)):
            self.assertEqual(unseen_range(rule, journey, "a", many), (NONE, most))
        self.assertEqual([age for _, age in full_journey(rule, journey, "a", 3)], [20, 15, 10, 5, 0])

    def test_a_touch_that_must_lie_where_a_class_begins(self):
        rule = (("a", "b"), 50, None, (), "all", ("last", 2), ("ages", (17, 33), (1, 9, 0)))
        journey = (("b", 40), ("a", 2))
        self.assertEqual(unseen_range(rule, journey, "b", 0), (NONE, NONE))
        self.assertEqual(unseen_range(rule, journey, "b", 1), (NONE, (9, 10)))
        full = full_journey(rule, journey, "b", 1)
        self.assertEqual(len(full), 3)
        self.assertTrue(17 <= full[1][1] < 33)

    def test_a_class_without_any_gap(self):
        rule = (("a", "b"), None, None, (), "all", ("last", 1), ("ages", (17, 33), (0, 1, 0)))
        self.assertEqual(unseen_range(rule, (), "a", 1), (NONE, WHOLE))
        self.assertTrue(17 <= full_journey(rule, (), "a", 1)[0][1] < 33)
        # Behind all touches there is no other class than that of the last one.
        self.assertEqual(unseen_range(rule, (("b", 33),), "a", 0), (NONE, NONE))
        self.assertEqual(unseen_range(rule, (("b", 33),), "a", 1), (NONE, WHOLE))
        self.assertEqual(unseen_range(rule, (("b", 17), ("b", 16)), "a", 1), (NONE, NONE))
        rule = rule[:5] + (("first", 1),) + rule[6:]
        self.assertEqual(unseen_range(rule, (("b", 33),), "a", 3), (NONE, NONE))
        self.assertEqual(unseen_range(rule, (("b", 32),), "a", 1), (NONE, WHOLE))

    def test_a_pause_that_is_bridged(self):
        # Only if the pause is filled all of the last four are of "a".
        rule = (("a", "b"), None, 5, (), "all", ("first", 4), ("even",))
        for pause, needed in ((6, 1), (10, 1), (11, 2), (15, 2), (16, 3), (20, 3), (21, 4), (10 ** 6, 4)):
            journey = (("a", pause),) * 4 + (("b", 0),)
            for many in (1, 2, 3):
                most = WHOLE if many >= needed else (many, many + 1)
                self.assertEqual(unseen_range(rule, journey, "a", many), (NONE, most))
                full = full_journey(rule, journey, "a", many)
                self.assertEqual(len(full), 5 + (needed if many >= needed else many))
                self.check_is_full(rule, journey, many, full)

    def test_a_class_that_is_reached_by_several_touches(self):
        rule = (("a", "b"), None, 5, (), "all", ("first", 1), ("ages", (12, 16), (0, 1, 0)))
        self.assertEqual(unseen_range(rule, (), "a", 2), (NONE, NONE))
        self.assertEqual(unseen_range(rule, (), "a", 3), (NONE, WHOLE))
        ages = [age for _, age in full_journey(rule, (), "a", 3)]
        self.assertEqual(len(ages), 3)
        self.assertTrue(12 <= ages[0] < 16 and ages[0] - ages[1] <= 5 and ages[1] - ages[2] <= 5 and ages[2] <= 5)
        self.assertEqual(unseen_range(rule, (("b", 9), ("b", 4)), "a", 1), (NONE, WHOLE))
        self.assertEqual(unseen_range(rule, (("b", 6), ("b", 4)), "a", 1), (NONE, NONE))

    def test_great_ages(self):
        far = rule_with(pick=("first", 1))
        for age in (GREATEST, GREATEST - 1, GREATEST - 30, 999):
            for many in (0, 1, 2, 3):
                journey = (("ad", age), ("mail", age), ("mail", 0))
                for rule in (far, EVEN, LAST, rule_with(pick=("first", 3), shares=("ages", (60,), (0, 1))),
                             rule_with(gap=24, pick=("first", 2)), rule_with(window=60, gap=0)):
                    for kind in rule[0]:
                        self.check_full(rule, journey, kind, many)
                self.assertEqual(unseen_range(far, journey, "ad", many), (NONE if many else WHOLE, WHOLE))
                self.assertEqual(unseen_range(far, journey, "mail", many), (NONE, WHOLE if many else NONE))
        journey = (("ad", GREATEST),) * 200
        self.assertEqual(unseen_range(far, journey, "mail", 2), (NONE, WHOLE))
        self.assertEqual(full_journey(far, journey, "mail", 2), (("mail", GREATEST),) + journey)


def told_spots(rule, journey, many):
    """Of all STANDINGS behind FULL JOURNEYS one each, as short as can be, with touches put in at all hours.

    What is put in further back than the REACH is as if it were as far back as that.
    """
    reach = told_hours(rule)[1]

    def keep(found, full):
        spot = (told_standing(rule, full), full[0][1] if full else 0)
        if spot not in found or len(found[spot]) > len(full):
            found[spot] = full

    def with_more(spots, ahead, until):
        for used in range(many):
            for full in [full for full in spots.values() if len(full) == ahead + used]:
                age = full[0][1] if full else 0
                for moment in range(age, min(until, age + reach) + 1):
                    for kind in rule[0]:
                        keep(spots, ((kind, moment),) + full)
        return spots

    spots = {}
    keep(spots, ())
    for ahead, touch in enumerate(reversed(journey)):
        before, spots = with_more(spots, ahead, touch[1]), {}
        for full in before.values():
            keep(spots, (touch,) + full)
    return list(with_more(spots, len(journey), GREATEST).values())


class BesideASecondReckoning(Ranges):
    def check_beside(self, rule, journey, many, greatest):
        self.check_told(rule, journey, many, all_full(rule, journey, many, greatest))

    def check_told(self, rule, journey, many, fulls):
        told = [(told_kind_credits(rule, full), len(full)) for full in fulls]
        for number, kind in enumerate(rule[0]):
            found, lengths = self.check_full(rule, journey, kind, many)
            extremes = [choose(parts[number] for parts, _ in told) for choose in (min, max)]
            self.assertEqual(found, tuple(as_pair(extreme) for extreme in extremes), (rule, journey, kind, many))
            shortest = [min(length for parts, length in told if parts[number] == extreme) for extreme in extremes]
            self.assertEqual(lengths, tuple(shortest[::-1]))

    def test_small_rules(self):
        chance = random.Random(51)
        for number, rule in enumerate(smallest_rules(chance, 150)):
            many = (0, 1, 1, 2, 2, 2)[number % 6]
            length = chance.choice([0, 1, 2, 3, 4])
            ages = sorted((chance.randint(0, 5) for _ in range(length)), reverse=True)
            journey = tuple((chance.choice("ab"), age) for age in ages)
            self.check_beside(rule, journey, many, (journey[0][1] if journey else 0) + 4)

    def test_three_touches(self):
        chance = random.Random(52)
        for rule in smallest_rules(chance, 25):
            length = chance.choice([0, 1, 2, 2])
            ages = sorted((chance.choice([0, 1, 3, 6]) for _ in range(length)), reverse=True)
            journey = tuple((chance.choice("ab"), age) for age in ages)
            self.check_beside(rule, journey, 3, (journey[0][1] if journey else 0) + 4)

    def test_rules_of_all_hours(self):
        chance = random.Random(53)
        for _ in range(60):
            rule = random_rule(chance)
            journey = random_journey(chance, rule[0])[-6:]
            self.check_beside(rule, journey, 1, (journey[0][1] if journey else 0) + told_hours(rule)[1] + 1)

    def test_two_touches_of_great_hours(self):
        chance = random.Random(54)
        for _ in range(6):
            marks = tuple(sorted(chance.sample(range(1, 25), 2)))
            rule = (("a", "b"), chance.choice([None, 20]), chance.choice([6, 9, None]), chance.choice([(), ("a",)]),
                "all",
                    (chance.choice(["first", "last"]), 3), ("ages", marks,
                    tuple(chance.randint(0, 3) for _ in range(3))))
            journey = (("a", 22), ("b", chance.randint(3, 9)))
            self.check_beside(rule, journey, 2, 26)

    def test_the_shortest_to_each_standing(self):
        chance = random.Random(57)
        for number, rule in enumerate(smallest_rules(chance, 60)):
            ages = sorted((chance.randint(0, 9) for _ in range(chance.randint(3, 6))), reverse=True)
            journey = tuple((chance.choice("ab"), age) for age in ages)
            many = 2 + number % 2
            self.check_told(rule, journey, many, told_spots(rule, journey, many))

    def test_fewer_touches_further_back(self):
        # To some STANDINGS of these a way by fewer touches is found behind one by more.
        for rule, journey, many in (
                ((("ad", "z"), 5, 3, (), "all", ("last", 4), ("places", ((3,), (11, 31), (17, 8, 35), (18, 49, 25, 5)))),
                 (("ad", 10), ("z", 6), ("ad", 5), ("ad", 0), ("z", 0)), 2),
                ((("ad",), None, 2, ("ad",), "all", ("first", 4), ("places", (
                    (49,), (34, 27), (50, 14, 36), (19, 25, 22, 5)))),
                 (("ad", 12), ("ad", 10), ("ad", 10), ("ad", 3), ("ad", 0)), 2)):
            self.check_told(rule, journey, many, told_spots(rule, journey, many))

    def test_journeys_of_200_touches(self):
        chance = random.Random(55)
        rules = [
            (("a", "b"), 30, 2, (), "last", ("first", 2), ("even",)),
            (("a", "b"), None, None, ("b",), "all", ("first", 2), ("ages", (2, 9), (1, 3, 0))),
            (("a", "b"), None, 1, (), "first", ("last", 2), ("places", ((70,), (10, 60)))),
        ]
        for rule, step in itertools.product(rules, (0, 3, 14)):
            journey = tuple((chance.choice("ab"), (199 - place) * step // 10) for place in range(200))
            fulls = {more for kind in "ab" for more, _ in all_put_in(journey, kind, journey[0][1] + 3)} | {journey}
            for number, kind in enumerate("ab"):
                found, _ = self.check_full(rule, journey, kind, 1)
                amounts = [long_credit(rule, full, kind) for full in fulls]
                self.assertEqual(found, (as_pair(min(amounts)), as_pair(max(amounts))))
                wider = [self.check_full(rule, journey, kind, many)[0] for many in (2, 3)]
                self.assertLessEqual(Fraction(*wider[1][0]), Fraction(*wider[0][0]))
                self.assertLessEqual(Fraction(*wider[0][0]), Fraction(*found[0]))
                self.assertGreaterEqual(Fraction(*wider[1][1]), Fraction(*wider[0][1]))
                self.assertGreaterEqual(Fraction(*wider[0][1]), Fraction(*found[1]))

    def test_four_kinds_and_200_touches(self):
        chance = random.Random(56)
        for weak, gap, marks in itertools.product(((), ("a", "b")), (24, None), ((), (10, 20, 30))):
            rule = (FOUR, None, gap, weak, "all", ("first", 4), ("ages", marks, (1, 2, 3, 4)[:len(marks) + 1]))
            journey = tuple((chance.choice(FOUR), (199 - place) * 24) for place in range(200))
            found, _ = self.check_full(rule, journey, "a", 3)
            self.assertLess(Fraction(*found[0]), 1)


class Refusals(unittest.TestCase):
    def wrong(self):
        journeys = [None, 1, "", [], {}, (("ad", 1),) * 201, EqualToAll()]
        return [("rule", value, (BadRule, "part", part)) for value, part in wrong_rules()] + [
            ("journey", value, (BadJourney, "number", None)) for value in journeys] + [
            ("journey", (("ad", 3), ("ad", 4)), (BadJourney, "number", 1)),
            ("journey", (("ad", True),), (BadJourney, "number", 0)),
            ("journey", (("no", 1),), (BadJourney, "number", 0)),
            ("journey", (("ad", 3), ["ad", 3]), (BadJourney, "number", 1))]

    def kinds(self):
        return [("kind", value, (BadKind, "value", value))
                for value in (None, 1, True, "", "no", b"ad", ("ad",), ["ad"], EqualToAll())]

    def manies(self):
        return [("many", value, (BadNumber, "value", value)) for value in NO_MANY]

    def test_which_error_is_due(self):
        good = {"rule": EVEN, "journey": SOME, "kind": "ad", "many": 1}
        for call in (unseen_range, full_journey):
            check_refusals(self, call, good, self.wrong() + self.kinds() + self.manies())
        check_refusals(self, lambda **told: full_journey(**told, least=True), good,
                       self.wrong() + self.kinds() + self.manies()[-9:])
        del good["kind"]
        for call in (surely_credited, perhaps_credited):
            check_refusals(self, call, good, self.wrong() + self.manies())

    def test_none_is_too_great(self):
        self.assertEqual(unseen_range(TOO_GREAT, (("a", 5),), "a", 3), ((1, 4), WHOLE))

    def test_names(self):
        good = {"rule": EVEN, "journey": SOME, "kind": "mail", "many": 2}
        check_names(self, unseen_range, good)
        check_names(self, full_journey, good)
        self.assertEqual(full_journey(EVEN, SOME, "mail", 2, least=True),
                         full_journey(least=True, many=2, kind="mail", journey=SOME, rule=EVEN))
        with self.assertRaises(TypeError):
            full_journey(EVEN, SOME, "mail", 2, True)
        del good["kind"]
        check_names(self, surely_credited, good)
        check_names(self, perhaps_credited, good)
        self.assertEqual(good, {"rule": copy.deepcopy(EVEN), "journey": copy.deepcopy(SOME), "many": 2})


if __name__ == "__main__":
    unittest.main()
