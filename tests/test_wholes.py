"""touchshare.wholes: by hand, beside a second reckoning, and what is refused."""

import copy
import itertools
import random
import unittest
from fractions import Fraction

from tests.reckoning import as_pair, longer, random_rule, small_rules, told_kind_credits, told_reached, told_standings
from tests.refusals import check_names, check_refusal, check_refusals
from tests.samples import (EVEN, FOUR, GREAT, TOO_GREAT, EqualToAll, LikeInteger, LikeTuple, odd_things, rule_with,
                           wrong_rules)
from touchshare.errors import BadFraction, BadKind, BadRule, TooGreat
from touchshare.rules import need_journey
from touchshare.sharing import all_given, kind_credits
from touchshare.standings import standings
from touchshare.wholes import givings, givings_of, is_whole, journey_giving, unwhole

NONE = (0, 1)
WHOLE = (1, 1)
PLACES = rule_with(pick=("last", 3), shares=("places", ((100,), (50, 50), (10, 20, 30))))

# What is no FRACTION from 0 to 1.
NO_SHARES = [
    None, 0, 1, "1/2", (1,), (1, 2, 1), [1, 2], LikeTuple(1, 2), (2, 4), (0, 2), (2, 2), (3, 6), (0, 0), (1, 0), (1, -1),
    (0, -1), (-1, -2), (-1, 2), (-1, 1), (3, 2), (2, 1), (10 ** 39 + 1, 10 ** 39), (True, 1), (1, True), (False, 1),
    (0, True), (None, 1), (1, None), ("1", "2"), ((1,), 2), (1, [2]), (LikeInteger(), 1), (0, LikeInteger()),
    (EqualToAll(), 2), (1, EqualToAll()), (10 ** 39, 10 ** 39),
]


class Givings(unittest.TestCase):
    def test_by_hand(self):
        self.assertEqual(givings(EVEN), (NONE, WHOLE))
        self.assertEqual(givings(PLACES), (NONE, (3, 5), WHOLE))
        self.assertEqual(givings_of(EVEN, "mail"), (NONE, (1, 4), (1, 3), (1, 2), (2, 3), (3, 4), WHOLE))
        self.assertEqual(givings_of(PLACES, "ad"), (
            NONE, (1, 10), (1, 5), (3, 10), (2, 5), (1, 2), (3, 5), WHOLE))
        self.assertEqual(givings(rule_with(shares=("ages", (3,), (0, 0)))), (NONE,))
        self.assertEqual(givings_of(rule_with(shares=("ages", (3,), (0, 0))), "ad"), (NONE,))

    def test_weak_kinds(self):
        rule = rule_with(weak=("direct",), pick=("first", 2), shares=("places", ((90,), (30, 40))))
        self.assertEqual(givings_of(rule, "direct"), (NONE, (7, 10), (9, 10)))
        self.assertEqual(givings_of(rule, "ad"), (NONE, (3, 10), (2, 5), (7, 10), (9, 10)))

    def test_ages_ascend_as_numbers(self):
        rule = (("a", "b"), None, None, (), "all", ("last", 4), ("ages", (1, 2), (9, 5, 7)))
        found = givings_of(rule, "b")
        numbers = [Fraction(*pair) for pair in found]
        self.assertEqual(numbers, sorted(set(numbers)))
        self.assertNotEqual(list(found), sorted(found))
        self.assertEqual(found[0], NONE)
        self.assertEqual(found[-1], WHOLE)

    def test_beside_all_journeys_of_small_rules(self):
        for rule in itertools.islice(small_rules(), 2, None, 13):
            journeys = [()]
            given, had = {NONE}, {NONE}
            # Four touches have room for the two of each of STRONG and SOFT.
            for _ in range(4):
                journeys = [more for journey in journeys for more in longer(rule, journey)]
                for journey in journeys:
                    given.add(all_given(rule, journey))
                    had.add(kind_credits(rule, journey)[1])
            self.assertEqual(set(givings(rule)), given, rule)
            self.assertEqual(set(givings_of(rule, "b")), had, rule)


class BesideASecondReckoning(unittest.TestCase):
    def rules(self):
        chance = random.Random(8)
        yield from itertools.islice(small_rules(), 0, None, 5)
        for _ in range(40):
            rule = random_rule(chance)
            try:
                if len(standings(rule)) <= 250:
                    yield rule
            except TooGreat:
                pass

    def test_rules(self):
        for rule in self.rules():
            journeys = list(told_standings(rule).values())
            credits_told = [told_kind_credits(rule, journey) for journey in journeys]
            given = [sum(told) for told in credits_told]
            self.assertEqual(givings(rule), tuple(map(as_pair, sorted(set(given)))), rule)
            for number, kind in enumerate(rule[0]):
                had = sorted({told[number] for told in credits_told})
                self.assertEqual(givings_of(rule, kind), tuple(map(as_pair, had)), rule)
            for fraction in [NONE, WHOLE, (1, 2), (3, 5), (30, 31), *map(as_pair, set(given))]:
                fewest = [len(journey) for journey, part in zip(journeys, given) if as_pair(part) == fraction]
                self.check_journey(rule, journey_giving(rule, fraction), fewest)
                if fewest:
                    self.assertEqual(all_given(rule, journey_giving(rule, fraction)), fraction)
            self.check_whole(rule, journeys, given)

    def check_journey(self, rule, journey, fewest):
        if not fewest:
            self.assertIsNone(journey)
        else:
            self.assertEqual(need_journey(rule, journey), journey)
            self.assertEqual(len(journey), min(fewest))

    def check_whole(self, rule, journeys, given):
        unlike = [len(journey) for journey, part in zip(journeys, given) if told_reached(rule, journey) and part != 1]
        self.assertIs(is_whole(rule), not unlike)
        journey = unwhole(rule)
        self.check_journey(rule, journey, unlike)
        if unlike:
            self.assertTrue(told_reached(rule, journey))
            self.assertNotEqual(all_given(rule, journey), WHOLE)


class JourneyGiving(unittest.TestCase):
    def test_by_hand(self):
        self.assertEqual(journey_giving(PLACES, NONE), ())
        self.assertEqual(len(journey_giving(PLACES, WHOLE)), 1)
        self.assertEqual(len(journey_giving(PLACES, (3, 5))), 3)
        self.assertIsNone(journey_giving(PLACES, (1, 2)))
        self.assertIsNone(journey_giving(rule_with(shares=("ages", (), (0,))), WHOLE))

    def test_fractions_that_are_none_of_a_hundred(self):
        self.assertIsNone(journey_giving(EVEN, (1, 10 ** 39)))
        self.assertIsNone(journey_giving(EVEN, (10 ** 39 - 1, 10 ** 39)))

    def test_far_back(self):
        rule = (("a", "b"), 60, 10, (), "all", ("first", 1), ("ages", (55,), (0, 1)))
        journey = journey_giving(rule, WHOLE)
        self.assertEqual(len(journey), 6)
        self.assertEqual(all_given(rule, journey), WHOLE)


class Whole(unittest.TestCase):
    def test_by_hand(self):
        self.assertIs(is_whole(EVEN), True)
        self.assertIsNone(unwhole(EVEN))
        self.assertIs(is_whole(PLACES), False)
        self.assertEqual(len(unwhole(PLACES)), 3)
        self.assertTrue(is_whole(rule_with(window=0, gap=0, weak=EVEN[0])))

    def test_what_is_not_reached_does_not_count(self):
        # Of a JOURNEY of which no TOUCH is reached nothing is GIVEN, and the RULE is whole all the same.
        for rule in (rule_with(window=3), rule_with(gap=3), rule_with(window=3, shares=("ages", (), (2,)))):
            self.assertTrue(is_whole(rule))
            self.assertIsNone(unwhole(rule))

    def test_weights_of_0(self):
        rule = rule_with(shares=("ages", (20,), (1, 0)))
        self.assertFalse(is_whole(rule))
        self.assertEqual([age for _, age in unwhole(rule)], [20])
        self.assertTrue(is_whole(rule_with(window=19, shares=("ages", (20,), (1, 0)))))
        self.assertFalse(is_whole(rule_with(window=20, shares=("ages", (20,), (1, 0)))))
        # A weight more of a TOUCH ahead makes the whole again.
        self.assertEqual(len(unwhole(rule_with(gap=4, pick=("first", 1), shares=("ages", (20,), (1, 0))))), 5)

    def test_places_by_what_pick_takes(self):
        rows = ((100,), (50, 50), (30, 30, 40), (25, 25, 25, 24))
        self.assertFalse(is_whole(rule_with(shares=("places", rows))))
        self.assertEqual(len(unwhole(rule_with(shares=("places", rows)))), 4)
        # Of three kinds, each once, there are never four.
        for once in ("first", "last"):
            self.assertTrue(is_whole(rule_with(once=once, shares=("places", rows))))
            self.assertFalse(is_whole(rule_with(kinds=FOUR, once=once, shares=("places", rows))))
        self.assertTrue(is_whole(rule_with(kinds=FOUR, once="first", weak=("d",), shares=("places", rows))))


class Calls(unittest.TestCase):
    def test_each_is_refused_in_its_order(self):
        rules = [("rule", rule, (BadRule, "part", part)) for rule, part in wrong_rules()]
        kinds = [("kind", value, (BadKind, "value", value)) for value in odd_things() + ["a", "Ad", "mails"]]
        fractions = [("fraction", value, (BadFraction, "value", value)) for value in odd_things() + NO_SHARES]
        for call in (givings, is_whole, unwhole):
            check_refusals(self, call, {"rule": EVEN}, rules)
        check_refusals(self, givings_of, {"rule": EVEN, "kind": "ad"}, rules + kinds)
        check_refusals(self, journey_giving, {"rule": EVEN, "fraction": NONE}, rules + fractions)

    def test_too_great_is_behind_all_other_errors(self):
        great = (TooGreat, "most", 20000)
        for call in (givings, is_whole, unwhole):
            check_refusal(self, call, {"rule": TOO_GREAT}, great)
        check_refusal(self, givings_of, {"rule": TOO_GREAT, "kind": "a"}, great)
        check_refusal(self, givings_of, {"rule": TOO_GREAT, "kind": "e"}, (BadKind, "value", "e"))
        # Also where what is asked for would be found at once.
        for fraction in (NONE, WHOLE, (1, 2)):
            check_refusal(self, journey_giving, {"rule": TOO_GREAT, "fraction": fraction}, great)
        for fraction in ((2, 4), True, [1, 2]):
            check_refusal(self, journey_giving, {"rule": TOO_GREAT, "fraction": fraction},
                          (BadFraction, "value", fraction))
        unwhole_at_once = TOO_GREAT[:6] + (("places", ((1,), (1, 1), (1, 1, 1), (1, 1, 1, 1))),)
        for call in (is_whole, unwhole):
            check_refusal(self, call, {"rule": unwhole_at_once}, great)

    def test_a_great_many_is_none_too_many(self):
        self.assertEqual(givings(GREAT), (NONE, WHOLE))
        self.assertEqual(givings_of(GREAT, "d"), (NONE, (1, 4), (1, 3), (1, 2), (2, 3), (3, 4), WHOLE))
        self.assertEqual(len(journey_giving(GREAT, WHOLE)), 1)
        self.assertIs(is_whole(GREAT), True)

    def test_names_and_equal_results(self):
        rule = rule_with(weak=("mail",), window=3, shares=("ages", (2,), (0, 3)))
        before = copy.deepcopy(rule)
        for call, more in ((givings, {}), (givings_of, {"kind": "ad"}), (journey_giving, {"fraction": WHOLE}),
                           (is_whole, {}), (unwhole, {})):
            first = check_names(self, call, {"rule": rule, **more})
            self.assertEqual(call(**copy.deepcopy({"rule": rule, **more})), first)
        self.assertEqual(rule, before)

    def test_kinds_of_values(self):
        for value in (givings(EVEN), givings(EVEN)[0], givings_of(EVEN, "ad"), journey_giving(EVEN, NONE),
                      journey_giving(EVEN, WHOLE), unwhole(PLACES)):
            self.assertIs(type(value), tuple)


if __name__ == "__main__":
    unittest.main()
