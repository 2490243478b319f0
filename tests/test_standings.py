"""touchshare.standings: beside a second reckoning that looks at the whole JOURNEY, by hand, and what is refused."""

import copy
import itertools
import random
import unittest

from tests.reckoning import (as_pair, longer, random_journey, random_rule, small_rules, told_hours, told_kind_credits,
                             told_standing, told_standings)
from tests.refusals import check_names, check_refusal, check_refusals
from tests.samples import (EVEN, FOUR, GREAT, TOO_GREAT, EqualToAll, LikeInteger, LikeTuple, odd_things, rule_with,
                           wrong_rules)
from touchshare.errors import BadJourney, BadKind, BadNumber, BadRule, BadStanding, TooGreat
from touchshare.rules import need_journey
from touchshare.sharing import kind_credits
from touchshare.standings import (behind, credits_at, first_standing, hours, is_standing, journey_to, standing_of,
                                  standings)

AGES = ("ages", (2, 5), (3, 1, 2))
NONE = (0, 1)


def ages_with(*marks):
    return ("ages", marks, (1,) * (len(marks) + 1))


class Hours(unittest.TestCase):
    def test_far_and_reach(self):
        for window, gap, shares, told in (
                (None, None, ("even",), (0, 0)), (0, None, ("even",), (1, 1)), (60, None, ("even",), (61, 61)),
                (None, 0, ("even",), (0, 1)), (None, 24, ("even",), (0, 25)), (0, 0, ("even",), (1, 1)),
                (60, 24, ("even",), (61, 61)), (0, 24, ("even",), (1, 25)), (23, 23, ("even",), (24, 24)),
                (24, 24, ("even",), (25, 25)), (23, 24, ("even",), (24, 25)),
                (None, None, ages_with(), (0, 0)), (0, 0, ages_with(), (1, 1)), (60, 24, ages_with(), (61, 61)),
                (None, None, ages_with(1), (1, 1)), (None, None, ages_with(3, 7), (7, 7)),
                (None, 0, ages_with(3, 7), (7, 7)), (None, 7, ages_with(3, 7), (7, 8)),
                (None, 24, ages_with(60), (60, 60)), (None, None, ages_with(1, 2, 60), (60, 60)),
                (5, None, ages_with(3), (6, 6)), (5, None, ages_with(3, 6), (6, 6)),
                (5, None, ages_with(3, 7), (7, 7)), (0, 24, ages_with(40), (40, 40)), (0, 24, ages_with(7), (7, 25)),
                (60, 24, ages_with(60), (61, 61)), (0, 0, ages_with(1), (1, 1))):
            rule = rule_with(window=window, gap=gap, shares=shares)
            self.assertEqual(hours(rule), told, rule)
            self.assertIs(type(hours(rule)), tuple)

    def test_beside_a_second_reckoning(self):
        chance = random.Random(1)
        for _ in range(500):
            rule = random_rule(chance)
            self.assertEqual(hours(rule), told_hours(rule))


class ByHand(unittest.TestCase):
    def test_first(self):
        for rule in (EVEN, GREAT, TOO_GREAT, rule_with(window=0, gap=0, weak=EVEN[0])):
            self.assertEqual(first_standing(rule), (0, 0, (), ()))
            self.assertEqual(standing_of(rule, ()), (0, 0, (), ()))

    def test_strong_and_soft_stand_apart_in_time(self):
        rule = rule_with(weak=("direct",), window=9)
        journey = (("mail", 4), ("direct", 3), ("ad", 3), ("direct", 0))
        self.assertEqual(standing_of(rule, journey), (4, 0, ((2, 0), (0, 0)), ((1, 0), (1, 0))))

    def test_once(self):
        journey = tuple((kind, 0) for kind in ("mail", "ad", "mail", "direct", "ad"))
        stay = {"first": ((2, 0), (0, 0), (1, 0)), "last": ((2, 0), (1, 0), (0, 0))}
        for once, told in stay.items():
            # By ONCE "first" and "last" PICK takes none away here.
            for pick in itertools.product(("first", "last"), (1, 2, 3, 4)):
                self.assertEqual(standing_of(rule_with(once=once, pick=pick), journey), (0, 0, told, ()))

    def test_pick(self):
        journey = tuple((kind, 0) for kind in ("mail", "ad", "direct", "mail", "ad"))
        numbers = [(2, 0), (0, 0), (1, 0), (2, 0), (0, 0)]
        for many in (1, 2, 3, 4):
            self.assertEqual(standing_of(rule_with(pick=("first", many)), journey)[2], tuple(numbers[:many]))
            self.assertEqual(standing_of(rule_with(pick=("last", many)), journey)[2], tuple(numbers[-many:]))
            self.assertEqual(standing_of(rule_with(pick=("last", many), weak=EVEN[0]), journey),
                             (0, 0, (), tuple(numbers[-many:])))

    def test_classes_at_the_marks(self):
        rule = rule_with(shares=AGES)
        journey = (("ad", 9), ("ad", 5), ("ad", 4), ("ad", 2), ("ad", 1))
        self.assertEqual(standing_of(rule, journey[1:]), (5, 0, ((0, 2), (0, 1), (0, 1), (0, 0)), ()))
        self.assertEqual(standing_of(rule, journey), (5, 0, ((0, 2), (0, 1), (0, 1), (0, 0)), ()))
        self.assertEqual(standing_of(rule_with(pick=("first", 2), shares=AGES), journey),
                         (5, 0, ((0, 2), (0, 2)), ()))

    def test_age_is_at_most_far(self):
        self.assertEqual(standing_of(EVEN, (("ad", 10 ** 6),)), (0, 0, ((0, 0),), ()))
        self.assertEqual(standing_of(rule_with(shares=AGES), (("ad", 10 ** 6),)), (5, 0, ((0, 2),), ()))
        self.assertEqual(standing_of(rule_with(window=7), (("ad", 7),)), (7, 0, ((0, 0),), ()))

    def test_out(self):
        self.assertEqual(standing_of(rule_with(window=7), (("ad", 8),)), (8, 1, (), ()))
        self.assertEqual(standing_of(rule_with(window=7, shares=ages_with(20)), (("ad", 8), ("ad", 1))),
                         (20, 1, ((0, 0),), ()))
        self.assertEqual(standing_of(rule_with(gap=3), (("ad", 8), ("mail", 7), ("mail", 3))), (0, 1, ((2, 0),), ()))
        self.assertEqual(standing_of(rule_with(gap=3), (("ad", 6), ("mail", 3))), (0, 0, ((0, 0), (2, 0)), ()))

    def test_behind(self):
        rule = rule_with(window=7, gap=3, weak=("direct",))
        standing = (4, 0, ((0, 0),), ())
        self.assertEqual(behind(rule, standing, "mail", 0), (4, 0, ((2, 0), (0, 0)), ()))
        self.assertEqual(behind(rule, standing, "direct", 3), (7, 0, ((0, 0),), ((1, 0),)))
        self.assertEqual(behind(rule, standing, "direct", 4), (8, 1, ((0, 0),), ()))
        self.assertEqual(behind(rule, (5, 0, (), ()), "ad", 3), (8, 1, (), ()))
        self.assertEqual(behind(rule, (5, 0, (), ()), "ad", 2), (7, 0, ((0, 0),), ()))
        self.assertEqual(behind(rule, (8, 1, ((0, 0),), ()), "ad", 0), (8, 1, ((0, 0),), ()))

    def test_credits(self):
        rule = rule_with(weak=("direct",), shares=AGES)
        self.assertEqual(credits_at(rule, (0, 0, (), ())), (NONE, NONE, NONE))
        self.assertEqual(credits_at(rule, (5, 0, ((0, 2), (2, 1)), ((1, 0),))), ((2, 3), NONE, (1, 3)))
        self.assertEqual(credits_at(rule, (5, 0, (), ((1, 0), (1, 1)))), (NONE, (1, 1), NONE))
        self.assertEqual(credits_at(rule_with(once="first", pick=("last", 1)), (0, 0, ((2, 0), (0, 0)), ())),
                         ((1, 1), NONE, NONE))
        self.assertEqual(credits_at(rule_with(once="first", pick=("first", 1)), (0, 0, ((2, 0), (0, 0)), ())),
                         (NONE, NONE, (1, 1)))


class BesideASecondReckoning(unittest.TestCase):
    def check(self, rule, journey):
        standing = told_standing(rule, journey)
        self.assertEqual(standing_of(rule, journey), standing, (rule, journey))
        self.assertTrue(is_standing(rule, standing))
        self.assertEqual(credits_at(rule, standing), tuple(map(as_pair, told_kind_credits(rule, journey))))
        self.assertEqual(credits_at(rule, standing), kind_credits(rule, journey))

    def check_steps(self, rule, journey, distances):
        """Each step behind a JOURNEY, also so far that the AGE would be no more one of a TOUCH."""
        age = journey[0][1] if journey else 0
        standing = standing_of(rule, journey)
        for kind, distance in itertools.product(rule[0], distances):
            told = told_standing(rule, ((kind, age + distance),) + journey)
            self.assertEqual(behind(rule, standing, kind, distance), told, (rule, journey, kind, distance))
            if standing[1] == 1:
                self.assertEqual(told, standing)

    def test_many_rules_and_journeys(self):
        chance = random.Random(20261119)
        for _ in range(3000):
            rule = random_rule(chance)
            self.check(rule, random_journey(chance, rule[0]))

    def test_small_rules(self):
        chance = random.Random(2)
        for rule in small_rules():
            for _ in range(6):
                many = chance.randint(0, 6)
                ages = sorted((chance.randint(0, 4) for _ in range(many)), reverse=True)
                self.check(rule, tuple((chance.choice("ab"), age) for age in ages))

    def test_steps(self):
        chance = random.Random(3)
        for _ in range(500):
            rule = random_rule(chance)
            reach = told_hours(rule)[1]
            near = [chance.randint(0, reach) for _ in range(3)]
            journey = random_journey(chance, rule[0])
            self.check_steps(rule, journey, [0, 1, *near, reach, reach + 1, reach + 7, 10 ** 6])

    def test_all_that_is_further_back_than_reach_is_one(self):
        chance = random.Random(4)
        for _ in range(300):
            rule = random_rule(chance)
            reach = hours(rule)[1]
            standing = standing_of(rule, random_journey(chance, rule[0]))
            for kind in rule[0]:
                told = behind(rule, standing, kind, reach)
                for distance in (reach + 1, reach + 2, 10 ** 6 - 1, 10 ** 6):
                    self.assertEqual(behind(rule, standing, kind, distance), told)

    def test_long_journeys(self):
        chance = random.Random(5)
        for _ in range(20):
            rule = random_rule(chance)
            ages = sorted((chance.randint(0, 30) for _ in range(200)), reverse=True)
            self.check(rule, tuple((chance.choice(rule[0]), age) for age in ages))

    def test_journey_of_the_greatest_ages(self):
        for rule in (EVEN, rule_with(gap=3), rule_with(shares=AGES), rule_with(window=60, gap=24)):
            self.check(rule, (("ad", 10 ** 6),) * 200)


# Of each part of a STANDING of FORM_RULE something that is otherwise.
FORM_RULE = (("a", "b", "c"), 4, None, ("b", "c"), "all", ("last", 2), ("ages", (2, 3), (1, 1, 1)))
FORM = (3, 0, ((0, 2), (0, 0)), ((1, 1), (2, 1)))
OTHERWISE = [
    FORM[:3], FORM + (0,), list(FORM), LikeTuple(*FORM), ((3, 0),) + FORM[2:], None, "quadruple",
    (-1,) + FORM[1:], (6,) + FORM[1:], (True,) + FORM[1:], ("3",) + FORM[1:], (None,) + FORM[1:], ((3,),) + FORM[1:],
    (LikeInteger(),) + FORM[1:], (EqualToAll(),) + FORM[1:],
    (3, 1) + FORM[2:], (4, 1) + FORM[2:], (0, 1) + FORM[2:], (3, 2) + FORM[2:], (3, -1) + FORM[2:],
    (3, False) + FORM[2:], (5, True) + FORM[2:], (3, None) + FORM[2:], (3, "0") + FORM[2:],
    (3, 0, [(0, 2), (0, 0)], FORM[3]), (3, 0, None, FORM[3]), (3, 0, 0, FORM[3]), (3, 0, {}, FORM[3]),
    (3, 0, "", FORM[3]), (3, 0, ((0, 2), [0, 0]), FORM[3]), (3, 0, ((0, 2), (0,)), FORM[3]),
    (3, 0, ((0, 2), (0, 0, 0)), FORM[3]), (3, 0, ((0, 2), None), FORM[3]), (3, 0, (0, 2), FORM[3]),
    (3, 0, ((0, 2), ()), FORM[3]), (3, 0, ((0, 3), (0, 0)), FORM[3]), (3, 0, ((0, -1), (0, 0)), FORM[3]),
    (3, 0, ((0, True), (0, 0)), FORM[3]), (3, 0, ((False, 0), (0, 0)), FORM[3]), (3, 0, ((0, "2"), (0, 0)), FORM[3]),
    (3, 0, (("a", 2), (0, 0)), FORM[3]), (3, 0, ((1, 2), (0, 0)), FORM[3]), (3, 0, ((0, 2), (2, 0)), FORM[3]),
    (3, 0, ((-1, 2), (0, 0)), FORM[3]), (3, 0, ((-3, 2), (0, 0)), FORM[3]), (3, 0, ((3, 2), (0, 0)), FORM[3]),
    (3, 0, ((0, 0), (0, 0), (0, 0)), FORM[3]), (3, 0, ((0, 0),) * 5, FORM[3]),
    (3, 0, FORM[2], [(1, 1)]), (3, 0, FORM[2], None), (3, 0, FORM[2], ([1, 1],)), (3, 0, FORM[2], ((1, 1, 1),)),
    (3, 0, FORM[2], ((0, 1),)), (3, 0, FORM[2], ((True, 1),)), (3, 0, FORM[2], ((1, True),)),
    (3, 0, FORM[2], ((1, 3),)), (3, 0, FORM[2], ((3, 1),)), (3, 0, FORM[2], ((-1, 1),)),
    (3, 0, FORM[2], ((1, 1),) * 3), (3, 0, FORM[2], ((1, 1), LikeTuple(1, 1))),
    (3, 0, FORM[2], ((LikeInteger(), 1),)), (3, 0, FORM[2], ((1, EqualToAll()),)), (3, 0, FORM[2], (((1, 1),),)),
]


class Form(unittest.TestCase):
    def test_what_has_the_form(self):
        for standing in (FORM, (0, 0, (), ()), (5, 1, (), ()), (5, 0, (), ()), (5, 1) + FORM[2:], (5, 0) + FORM[2:],
                         (0, 0, ((0, 2), (0, 2)), ()), (0, 0, (), ((2, 2), (1, 2)))):
            self.assertIs(is_standing(FORM_RULE, standing), True)

    def test_what_is_otherwise(self):
        for value in OTHERWISE + odd_things():
            self.assertIs(is_standing(FORM_RULE, value), False)

    def test_as_many_pairs_as_pick_takes(self):
        for many, times in itertools.product((1, 2, 3, 4), range(7)):
            rule = rule_with(pick=("first", many), weak=("mail",))
            self.assertEqual(is_standing(rule, (0, 0, ((0, 0),) * times, ())), times <= many)
            self.assertEqual(is_standing(rule, (0, 0, (), ((2, 0),) * times)), times <= many)

    def test_no_number_twice_of_once(self):
        for once, many in itertools.product(("first", "last"), (1, 4)):
            rule = (FOUR, None, None, (), once, ("last", many), ages_with(3))
            self.assertTrue(is_standing(rule, (0, 0, ((3, 0), (1, 1), (0, 0), (2, 1)), ())))
            for pairs in (((1, 0), (1, 0)), ((1, 0), (1, 1)), ((1, 0), (0, 0), (1, 0)), ((3, 0),) * 4, ((3, 0),) * 5):
                self.assertFalse(is_standing(rule, (0, 0, pairs, ())))
                self.assertFalse(is_standing(rule[:3] + (FOUR,) + rule[4:], (0, 0, (), pairs)))

    def test_without_ages_all_classes_are_none(self):
        for shares in (("even",), ("places", ((1,), (1, 1), (1, 1, 1), (1, 1, 1, 1))), ages_with()):
            rule = rule_with(shares=shares)
            self.assertTrue(is_standing(rule, (0, 0, ((0, 0),), ())))
            self.assertFalse(is_standing(rule, (0, 0, ((0, 1),), ())))

    def test_age_and_out(self):
        rule = rule_with(window=4)
        for age, out in itertools.product(range(-1, 8), range(-1, 4)):
            told = 0 <= age <= 5 and (out == 0 or out == 1 and age == 5)
            self.assertEqual(is_standing(rule, (age, out, (), ())), told)

    def test_what_has_the_form_is_let_by_also_if_it_never_comes(self):
        # Reached behind the window, younger ones further back, a class that its age has not.
        for standing in ((5, 0, (), ()), (0, 0, ((0, 2), (0, 0)), ((1, 2),)), (3, 0, ((0, 0), (0, 2)), ()),
                         (5, 0, ((0, 2),), ()), (0, 0, (), ((2, 0),))):
            self.assertEqual(len(credits_at(FORM_RULE, standing)), 3)
            self.assertTrue(is_standing(FORM_RULE, behind(FORM_RULE, standing, "a", 0)))
        for standing in ((5, 0, (), ()), (0, 0, ((0, 2), (0, 0)), ()), (3, 0, ((0, 0), (0, 2)), ()),
                         (1, 0, (), ()), (0, 0, ((0, 1),), ())):
            self.assertIsNone(journey_to(FORM_RULE, standing))
        self.assertEqual(behind(FORM_RULE, (5, 0, (), ()), "a", 0), (5, 1, (), ()))
        self.assertEqual(behind(FORM_RULE, (0, 0, ((0, 2), (0, 0)), ()), "b", 1),
                         (1, 0, ((0, 2), (0, 0)), ((1, 0),)))
        self.assertEqual(behind(FORM_RULE, (0, 0, ((0, 1),), ()), "a", 2), (2, 0, ((0, 1), (0, 1)), ()))
        self.assertEqual(credits_at(FORM_RULE, (0, 0, (), ((1, 2), (2, 0)))), (NONE, (1, 2), (1, 2)))

    def test_each_standing_of_a_rule_has_the_form(self):
        for rule in itertools.islice(small_rules(), 0, None, 11):
            for standing in standings(rule):
                self.assertTrue(is_standing(rule, standing))
                for kind in rule[0]:
                    self.assertTrue(is_standing(rule, behind(rule, standing, kind, 1)))


class AllStandings(unittest.TestCase):
    def test_by_hand(self):
        rule = (("a",), None, None, (), "all", ("last", 1), ("even",))
        self.assertEqual(standings(rule), ((0, 0, (), ()), (0, 0, ((0, 0),), ())))
        self.assertEqual(standings((("a",), 0, None, (), "all", ("last", 1), ("even",))), (
            (0, 0, (), ()), (0, 0, ((0, 0),), ()), (1, 1, (), ()), (1, 1, ((0, 0),), ())))
        self.assertEqual(standings((("a",), None, 0, ("a",), "first", ("last", 1), ("even",))), (
            (0, 0, (), ()), (0, 0, (), ((0, 0),)), (0, 1, (), ()), (0, 1, (), ((0, 0),))))

    def test_beside_all_journeys_of_small_rules(self):
        for rule in itertools.islice(small_rules(), 0, None, 7):
            told = {}
            journeys = [()]
            # Where a TOUCH more brings nothing new, all have come: a STANDING hangs on the one ahead.
            while journeys:
                found = {told_standing(rule, journey) for journey in journeys}
                news = found - set(told)
                told.update((standing, len(journeys[0])) for standing in news)
                journeys = [more for journey in journeys for more in longer(rule, journey)] if news else []
            self.assertEqual(standings(rule), tuple(sorted(told)), rule)
            for standing, many in list(told.items())[::5]:
                self.assertEqual(len(journey_to(rule, standing)), many)

    def test_beside_a_second_reckoning(self):
        chance = random.Random(6)
        for rule in [*itertools.islice(small_rules(), 3, None, 9), *(random_rule(chance) for _ in range(40))]:
            try:
                found = standings(rule)
            except TooGreat:
                continue
            if len(found) > 250:
                continue
            told = told_standings(rule)
            self.assertEqual(found, tuple(sorted(told)), rule)
            for standing in found:
                journey = journey_to(rule, standing)
                self.assertEqual(need_journey(rule, journey), journey)
                self.assertEqual(told_standing(rule, journey), standing)
                self.assertEqual(len(journey), len(told[standing]))

    def test_what_never_comes_has_no_journey(self):
        rule = (("a", "b"), 1, 1, ("b",), "last", ("last", 2), ("ages", (1,), (1, 2)))
        come = standings(rule)
        every = list(itertools.chain.from_iterable(itertools.combinations([(0, 0), (0, 1)], n) for n in (0, 1)))
        soft = list(itertools.chain.from_iterable(itertools.combinations([(1, 0), (1, 1)], n) for n in (0, 1)))
        formed = [value for value in itertools.product(range(4), (0, 1), every, soft) if is_standing(rule, value)]
        self.assertLess(set(come), set(formed))
        for standing in formed:
            self.assertEqual(journey_to(rule, standing) is None, standing not in come)

    def test_a_great_many(self):
        found = standings(GREAT)
        self.assertEqual(len(found), 19722)
        self.assertTrue(all(ahead < standing for ahead, standing in itertools.pairwise(found)))
        journey = journey_to(GREAT, found[-1])
        self.assertEqual(standing_of(GREAT, journey), found[-1])
        self.assertIsNone(journey_to(GREAT, (57, 0, (), ())))
        less = (FOUR, 19, 6, ("a", "b"), "all", ("first", 4), ("ages", (), (1,)))
        self.assertEqual(len(standings(less)), 19994)

    def test_too_many(self):
        more = (FOUR, 19, 7, ("a", "b"), "all", ("last", 4), ("even",))
        for rule in (TOO_GREAT, more, (FOUR, 60, 24, ("a",), "all", ("last", 4), ages_with(1, 20, 60))):
            check_refusal(self, standings, {"rule": rule}, (TooGreat, "most", 20000))
            for standing in ((0, 0, (), ()), (1, 0, (), ())):
                check_refusal(self, journey_to, {"rule": rule, "standing": standing}, (TooGreat, "most", 20000))

    def test_a_way_of_many_touches(self):
        rule = (FOUR, 60, 1, (), "last", ("last", 4), ("even",))
        journey = journey_to(rule, (60, 0, ((3, 0), (2, 0), (1, 0), (0, 0)), ()))
        self.assertEqual(len(journey), 60)
        self.assertEqual(standing_of(rule, journey), (60, 0, ((3, 0), (2, 0), (1, 0), (0, 0)), ()))
        self.assertEqual(len(journey_to(rule, (61, 1, ((0, 0),), ()))), 2)


class Calls(unittest.TestCase):
    def test_each_is_refused_in_its_order(self):
        rules = [("rule", rule, (BadRule, "part", part)) for rule, part in wrong_rules()]
        odd_standings = [("standing", value, (BadStanding, "value", value)) for value in OTHERWISE[::4] + odd_things()]
        kinds = [("kind", value, (BadKind, "value", value)) for value in odd_things() + ["d", "A", "ab", ("a",)]]
        distances = [("distance", value, (BadNumber, "value", value)) for value in odd_things() + [10 ** 6 + 1, "1"]]
        journeys = [("journey", (("a", 0), ("a", 1)), (BadJourney, "number", 1)),
                    ("journey", [], (BadJourney, "number", None))]
        good = {"rule": FORM_RULE, "standing": FORM, "kind": "a", "distance": 0}
        check_refusals(self, behind, good, rules[::3] + odd_standings[::6] + kinds[::6] + distances[::6])
        check_refusals(self, behind, good, odd_standings[-3:] + kinds[-3:] + distances[-3:])
        for name, value, told in rules + odd_standings + kinds + distances:
            check_refusal(self, behind, {**good, name: value}, told)
        for call in (credits_at, journey_to):
            check_refusals(self, call, {"rule": FORM_RULE, "standing": FORM}, rules + odd_standings)
        check_refusals(self, standing_of, {"rule": FORM_RULE, "journey": ()}, rules + journeys)
        for call in (hours, first_standing, standings):
            check_refusals(self, call, {"rule": FORM_RULE}, rules)
        for value in (None, FORM):
            check_refusals(self, is_standing, {"rule": FORM_RULE, "value": value}, rules)

    def test_too_great_is_behind_all_other_errors(self):
        for value in OTHERWISE[:3]:
            check_refusal(self, journey_to, {"rule": TOO_GREAT, "standing": value}, (BadStanding, "value", value))
        check_refusal(self, standings, {"rule": TOO_GREAT[:6] + (0,)}, (BadRule, "part", "shares"))

    def test_what_looks_at_one_standing_is_never_too_great(self):
        self.assertEqual(hours(TOO_GREAT), (58, 58))
        self.assertTrue(is_standing(TOO_GREAT, (58, 1, ((3, 0),) * 4, ())))
        self.assertEqual(behind(TOO_GREAT, (0, 0, (), ()), "d", 57), (57, 0, ((3, 0),), ()))
        self.assertEqual(standing_of(TOO_GREAT, (("d", 58),)), (58, 1, (), ()))
        self.assertEqual(credits_at(TOO_GREAT, (58, 1, ((3, 0),), ())), (NONE, NONE, NONE, (1, 1)))

    def test_distances_at_the_bounds(self):
        for distance in (0, 10 ** 6):
            behind(FORM_RULE, FORM, "a", distance)
        for distance in (-1, 10 ** 6 + 1, 10 ** 40):
            check_refusal(self, behind, {"rule": FORM_RULE, "standing": FORM, "kind": "a", "distance": distance},
                          (BadNumber, "value", distance))

    def test_names_and_equal_results(self):
        rule = rule_with(weak=("mail",), window=3, shares=AGES)
        journey = (("mail", 2), ("ad", 1))
        before = copy.deepcopy((rule, journey))
        standing = check_names(self, standing_of, {"rule": rule, "journey": journey})
        for call, more in ((hours, {}), (first_standing, {}), (standings, {}), (is_standing, {"value": standing}),
                           (credits_at, {"standing": standing}), (journey_to, {"standing": standing}),
                           (behind, {"standing": standing, "kind": "ad", "distance": 1})):
            first = check_names(self, call, {"rule": rule, **more})
            self.assertEqual(call(**copy.deepcopy({"rule": rule, **more})), first)
        self.assertEqual((rule, journey), before)

    def test_kinds_of_values(self):
        for value in (standings(EVEN), standings(EVEN)[3], standings(EVEN)[3][2], journey_to(EVEN, standings(EVEN)[-1]),
                      credits_at(EVEN, (0, 0, (), ())), behind(EVEN, (0, 0, (), ()), "ad", 1)):
            self.assertIs(type(value), tuple)


if __name__ == "__main__":
    unittest.main()
