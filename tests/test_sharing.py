"""touchshare.sharing: what is reached and credited, and the credits, by hand and beside a second reckoning."""

import copy
import itertools
import math
import random
import unittest
from fractions import Fraction

from tests.reckoning import as_pair, random_journey, random_rule, told_credited, told_credits, told_reached
from tests.samples import EVEN, odd_things, rule_with
from touchshare.errors import BadJourney, BadRule
from touchshare.sharing import all_given, credited, kind_credits, reached, touch_credits

CALLS = (reached, credited, touch_credits, kind_credits, all_given)
KINDS = EVEN[0]
NONE = (0, 1)
WHOLE = (1, 1)


def aged(*ages, kind="ad"):
    """A journey of touches of one kind."""
    return tuple((kind, age) for age in ages)


def of_kinds(letters, age=0):
    """A journey of touches at one hour, each kind told by its first letter."""
    names = {"a": "ad", "d": "direct", "m": "mail"}
    return tuple((names[letter], age) for letter in letters)


class Reached(unittest.TestCase):
    def test_without_limits_all_are_reached(self):
        self.assertEqual(reached(EVEN, aged(10 ** 6, 10 ** 6, 9, 0)), (0, 1, 2, 3))
        self.assertEqual(reached(EVEN, aged(*[10 ** 6] * 200)), tuple(range(200)))

    def test_window_at_its_bound_and_one_above(self):
        for window in (0, 1, 7, 60):
            rule = rule_with(window=window)
            self.assertEqual(reached(rule, aged(window + 1, window + 1, window, window, 0)), (2, 3, 4))
            self.assertEqual(reached(rule, aged(window)), (0,))
            self.assertEqual(reached(rule, aged(window + 1)), ())
            self.assertEqual(reached(rule, aged(10 ** 6)), ())

    def test_gap_at_its_bound_and_one_above(self):
        for gap in (0, 1, 5, 24):
            rule = rule_with(gap=gap)
            self.assertEqual(reached(rule, aged(3 * gap, 2 * gap, gap)), (0, 1, 2))
            self.assertEqual(reached(rule, aged(2 * gap + 1, gap, gap)), (1, 2))
            self.assertEqual(reached(rule, aged(gap + 1, 0)), (1,))

    def test_gap_counts_from_the_sale(self):
        self.assertEqual(reached(rule_with(gap=3), aged(4, 4)), ())
        self.assertEqual(reached(rule_with(gap=3), aged(3, 3)), (0, 1))
        self.assertEqual(reached(rule_with(gap=0), aged(1)), ())
        self.assertEqual(reached(rule_with(gap=0), aged(1, 0, 0)), (1, 2))

    def test_behind_a_pause_nothing_is_reached(self):
        self.assertEqual(reached(rule_with(gap=2), aged(9, 8, 7, 4, 2)), (3, 4))
        self.assertEqual(reached(rule_with(gap=2), aged(9, 9, 9, 9, 2)), (4,))

    def test_window_and_gap_together(self):
        rule = rule_with(window=6, gap=3)
        self.assertEqual(reached(rule, aged(7, 6, 3)), (1, 2))
        self.assertEqual(reached(rule, aged(6, 2)), (1,))
        self.assertEqual(reached(rule, aged(9, 6, 5, 1)), (3,))
        self.assertEqual(reached(rule_with(window=2, gap=24), aged(3, 2)), (1,))

    def test_what_a_kind_is_makes_no_difference(self):
        rule = rule_with(window=5, weak=("ad",), once="last", pick=("last", 1))
        self.assertEqual(reached(rule, (("mail", 6), ("ad", 5), ("mail", 5), ("ad", 0))), (1, 2, 3))

    def test_of_an_empty_journey_nothing_is_reached(self):
        for window, gap in itertools.product((None, 0, 60), (None, 0, 24)):
            self.assertEqual(reached(rule_with(window=window, gap=gap), ()), ())


class Credited(unittest.TestCase):
    def test_weak_ones_count_only_if_there_are_no_others(self):
        rule = rule_with(weak=("direct",))
        self.assertEqual(credited(rule, of_kinds("dadm")), (1, 3))
        self.assertEqual(credited(rule, of_kinds("ddd")), (0, 1, 2))
        self.assertEqual(credited(rule_with(weak=KINDS), of_kinds("dam")), (0, 1, 2))
        self.assertEqual(credited(rule_with(weak=("ad", "mail")), of_kinds("dama")), (0,))

    def test_strong_ones_that_are_not_reached_do_not_count(self):
        rule = rule_with(weak=("direct",), window=5)
        self.assertEqual(credited(rule, (("ad", 6), ("direct", 5), ("direct", 0))), (1, 2))
        self.assertEqual(credited(rule, (("ad", 5), ("direct", 5), ("direct", 0))), (0,))

    def test_once(self):
        journey = of_kinds("dadmma")
        self.assertEqual(credited(rule_with(once="all"), journey), (2, 3, 4, 5))
        self.assertEqual(credited(rule_with(once="first"), journey), (0, 1, 3))
        self.assertEqual(credited(rule_with(once="last"), journey), (2, 4, 5))

    def test_once_looks_only_at_those_that_are_reached(self):
        journey = (("ad", 9), ("mail", 5), ("ad", 4), ("ad", 3))
        self.assertEqual(credited(rule_with(once="first", window=8), journey), (1, 2))
        self.assertEqual(credited(rule_with(once="first"), journey), (0, 1))

    def test_once_stands_behind_weak_and_ahead_of_pick(self):
        journey = of_kinds("mdaad")
        rule = rule_with(once="first", weak=("mail",), pick=("last", 2))
        self.assertEqual(credited(rule, journey), (1, 2))
        self.assertEqual(credited(rule_with(once="last", pick=("first", 2)), journey), (0, 3))

    def test_pick(self):
        journey = of_kinds("amdam")
        for many in (1, 2, 3, 4):
            self.assertEqual(credited(rule_with(pick=("first", many)), journey), tuple(range(many)))
            self.assertEqual(credited(rule_with(pick=("last", many)), journey), tuple(range(5 - many, 5)))

    def test_all_are_credited_if_they_are_fewer(self):
        for end, many in itertools.product(("first", "last"), (1, 2, 3, 4)):
            for length in range(many + 1):
                self.assertEqual(credited(rule_with(pick=(end, many)), aged(*[2] * length)), tuple(range(length)))

    def test_who_gets_nothing_may_be_credited(self):
        self.assertEqual(credited(rule_with(shares=("ages", (), (0,))), aged(1, 0)), (0, 1))

    def test_nobody_is_credited_of_nothing_reached(self):
        for rule in (rule_with(window=3), rule_with(gap=3), rule_with(window=3, weak=KINDS, once="first")):
            for journey in ((), aged(4), aged(10 ** 6, 9)):
                self.assertEqual(credited(rule, journey), ())

    def test_of_200_touches(self):
        self.assertEqual(credited(EVEN, aged(*[1] * 200)), (196, 197, 198, 199))
        self.assertEqual(credited(rule_with(pick=("first", 3)), aged(*[1] * 200)), (0, 1, 2))
        self.assertEqual(credited(rule_with(once="first"), of_kinds("am" * 100)), (0, 1))
        self.assertEqual(credited(rule_with(once="last"), of_kinds("dam" + "a" * 197)), (0, 2, 199))


class Credits(unittest.TestCase):
    def test_even(self):
        for many in (1, 2, 3, 4):
            self.assertEqual(touch_credits(EVEN, aged(*[3] * many)), ((1, many),) * many)
        self.assertEqual(touch_credits(EVEN, aged(*[3] * 6)), (NONE, NONE) + ((1, 4),) * 4)

    def test_even_by_kinds(self):
        self.assertEqual(kind_credits(EVEN, of_kinds("aam")), ((2, 3), NONE, (1, 3)))
        self.assertEqual(kind_credits(EVEN, of_kinds("adad")), ((1, 2), (1, 2), NONE))
        self.assertEqual(kind_credits(EVEN, of_kinds("mmm")), (NONE, NONE, WHOLE))

    def test_places_go_by_how_many_are_credited(self):
        rule = rule_with(shares=("places", ((100,), (40, 60), (20, 30, 50), (10, 20, 30, 40))))
        self.assertEqual(touch_credits(rule, of_kinds("a")), (WHOLE,))
        self.assertEqual(touch_credits(rule, of_kinds("am")), ((2, 5), (3, 5)))
        self.assertEqual(touch_credits(rule, of_kinds("ama")), ((1, 5), (3, 10), (1, 2)))
        self.assertEqual(touch_credits(rule, of_kinds("dama")), ((1, 10), (1, 5), (3, 10), (2, 5)))
        self.assertEqual(touch_credits(rule, of_kinds("mdama")), (NONE, (1, 10), (1, 5), (3, 10), (2, 5)))
        self.assertEqual(kind_credits(rule, of_kinds("dama")), ((3, 5), (1, 10), (3, 10)))
        self.assertEqual(all_given(rule, of_kinds("dama")), WHOLE)

    def test_places_are_told_in_time_at_both_ends(self):
        shares = ("places", ((7,), (8, 9)))
        self.assertEqual(touch_credits(rule_with(pick=("first", 2), shares=shares), aged(5, 4, 3)),
                         ((2, 25), (9, 100), NONE))
        self.assertEqual(touch_credits(rule_with(pick=("last", 2), shares=shares), aged(5, 4, 3)),
                         (NONE, (2, 25), (9, 100)))

    def test_places_may_give_less_than_all(self):
        rule = rule_with(pick=("last", 2), shares=("places", ((0,), (15, 10))))
        self.assertEqual(all_given(rule, aged(1)), NONE)
        self.assertEqual(all_given(rule, aged(1, 1)), (1, 4))
        self.assertEqual(touch_credits(rule, aged(1, 1)), ((3, 20), (1, 10)))

    def test_ages_at_the_marks_and_one_beside(self):
        rule = rule_with(shares=("ages", (2, 5, 60), (9, 4, 1, 2)))
        self.assertEqual(touch_credits(rule, aged(60, 5, 2, 1)), ((1, 8), (1, 16), (1, 4), (9, 16)))
        self.assertEqual(touch_credits(rule, aged(59, 4, 2, 0)), ((1, 18), (2, 9), (2, 9), (1, 2)))
        self.assertEqual(touch_credits(rule, aged(10 ** 6, 61, 1)), ((2, 13), (2, 13), (9, 13)))

    def test_ages_without_marks_are_alike(self):
        for weight in range(1, 10):
            self.assertEqual(touch_credits(rule_with(shares=("ages", (), (weight,))), aged(9, 8, 0)), ((1, 3),) * 3)

    def test_ages_without_any_weight_give_nothing(self):
        rule = rule_with(shares=("ages", (5,), (0, 3)))
        self.assertEqual(touch_credits(rule, aged(4, 0)), (NONE, NONE))
        self.assertEqual(kind_credits(rule, aged(4, 0)), (NONE,) * 3)
        self.assertEqual(all_given(rule, aged(4, 0)), NONE)
        self.assertEqual(touch_credits(rule, aged(5, 0)), (WHOLE, NONE))
        none_at_all = rule_with(shares=("ages", (1, 2), (0, 0, 0)))
        self.assertEqual(kind_credits(none_at_all, aged(60, 2, 1, 0)), (NONE,) * 3)

    def test_ages_weigh_only_those_that_are_credited(self):
        rule = rule_with(pick=("first", 1), shares=("ages", (3,), (9, 1)))
        self.assertEqual(touch_credits(rule, aged(3, 0, 0)), (WHOLE, NONE, NONE))

    def test_of_an_empty_journey_nothing_is_given(self):
        for shares in (("even",), ("places", ((1,), (1, 1), (1, 1, 1), (1, 1, 1, 1))), ("ages", (), (1,))):
            rule = rule_with(shares=shares)
            self.assertEqual(touch_credits(rule, ()), ())
            self.assertEqual(kind_credits(rule, ()), (NONE,) * 3)
            self.assertEqual(all_given(rule, ()), NONE)

    def test_of_nothing_reached_nothing_is_given(self):
        for shares in (("even",), ("places", ((1,), (1, 1), (1, 1, 1), (1, 1, 1, 1))), ("ages", (), (1,))):
            for rule in (rule_with(window=3, shares=shares), rule_with(gap=3, shares=shares)):
                self.assertEqual(touch_credits(rule, aged(9, 4)), (NONE, NONE))
                self.assertEqual(kind_credits(rule, aged(9, 4)), (NONE,) * 3)
                self.assertEqual(all_given(rule, aged(9, 4)), NONE)

    def test_of_200_touches(self):
        self.assertEqual(touch_credits(EVEN, aged(*[1] * 200)), (NONE,) * 196 + ((1, 4),) * 4)
        self.assertEqual(kind_credits(rule_with(once="last"), of_kinds("adm" * 66 + "ad")), ((1, 3),) * 3)
        self.assertEqual(all_given(EVEN, aged(*range(199, -1, -1))), WHOLE)

    def test_there_are_as_many_kinds_as_the_rule_has(self):
        for kinds in (("a",), ("a", "b"), ("a", "b", "c", "d")):
            rule = rule_with(kinds=kinds)
            self.assertEqual(kind_credits(rule, ((kinds[-1], 1),)), (NONE,) * (len(kinds) - 1) + (WHOLE,))


class BesideASecondReckoning(unittest.TestCase):
    def check(self, rule, journey):
        told = told_credits(rule, journey)
        by_kinds = [sum((part for touch, part in zip(journey, told) if touch[0] == kind), Fraction(0))
                    for kind in rule[0]]
        self.assertEqual(reached(rule, journey), told_reached(rule, journey), (rule, journey))
        self.assertEqual(credited(rule, journey), told_credited(rule, journey), (rule, journey))
        self.assertEqual(touch_credits(rule, journey), tuple(map(as_pair, told)), (rule, journey))
        self.assertEqual(kind_credits(rule, journey), tuple(map(as_pair, by_kinds)), (rule, journey))
        self.assertEqual(all_given(rule, journey), as_pair(sum(told, Fraction(0))), (rule, journey))

    def test_many_rules_and_journeys(self):
        chance = random.Random(20261119)
        for _ in range(4000):
            rule = random_rule(chance)
            self.check(rule, random_journey(chance, rule[0]))

    def test_long_journeys(self):
        chance = random.Random(7)
        for _ in range(20):
            rule = random_rule(chance)
            ages = sorted((chance.randint(0, 30) for _ in range(200)), reverse=True)
            self.check(rule, tuple((chance.choice(rule[0]), age) for age in ages))

    def test_all_short_journeys_of_some_rules(self):
        limits = itertools.product((None, 2), (None, 1), ((), ("b",)), ("all", "first", "last"))
        journeys = [journey for many in range(4) for journey in itertools.product(
            itertools.product(("a", "b"), range(4)), repeat=many)
            if all(ahead[1] >= touch[1] for ahead, touch in itertools.pairwise(journey))]
        for window, gap, weak, once in limits:
            for shares in (("even",), ("places", ((90,), (30, 50))), ("ages", (1, 3), (3, 0, 2))):
                rule = (("a", "b"), window, gap, weak, once, ("last", 2), shares)
                for journey in journeys[::5]:
                    self.check(rule, journey)


class AllCalls(unittest.TestCase):
    def test_fractions_have_no_common_divisor(self):
        chance = random.Random(5)
        for _ in range(400):
            rule = random_rule(chance)
            journey = random_journey(chance, rule[0])
            found = touch_credits(rule, journey) + kind_credits(rule, journey) + (all_given(rule, journey),)
            for part, whole in found:
                self.assertTrue(whole >= 1 and 0 <= part <= whole and math.gcd(part, whole) == 1)

    def test_kinds_of_values(self):
        journey = of_kinds("dam")
        for call in (reached, credited):
            self.assertIs(type(call(EVEN, journey)), tuple)
            self.assertTrue(all(type(number) is int for number in call(EVEN, journey)))
        for found in (touch_credits(EVEN, journey), kind_credits(EVEN, journey), (all_given(EVEN, journey),)):
            self.assertIs(type(found), tuple)
            for pair in found:
                self.assertIs(type(pair), tuple)
                self.assertEqual([type(number) for number in pair], [int, int])

    def test_arguments_by_position_and_by_name(self):
        journey = of_kinds("dam")
        for call in CALLS:
            self.assertEqual(call(EVEN, journey), call(rule=EVEN, journey=journey))
            self.assertEqual(call(EVEN, journey), call(journey=journey, rule=EVEN))

    def test_equal_calls_have_equal_results_and_change_nothing(self):
        rule = rule_with(weak=("direct",), shares=("ages", (3,), (2, 1)))
        journey = (("mail", 4), ("direct", 2), ("ad", 1))
        before = copy.deepcopy((rule, journey))
        for call in CALLS:
            first = call(rule, journey)
            call(EVEN, aged(1))
            self.assertEqual(call(copy.deepcopy(rule), copy.deepcopy(journey)), first)
        self.assertEqual((rule, journey), before)

    def test_a_wrong_rule_is_refused_first(self):
        wrong = [
            (EVEN[:6], "form"), (None, "form"), (rule_with(kinds=()), "kinds"), (rule_with(window=61), "window"),
            (rule_with(window=True), "window"), (rule_with(gap=25), "gap"), (rule_with(weak=("no",)), "weak"),
            (rule_with(once="any"), "once"), (rule_with(pick=("last", 5)), "pick"),
            (rule_with(shares=("odd",)), "shares"), (rule_with(window=-1, shares=()), "window"),
        ]
        for call in CALLS:
            for rule, part in wrong + [(thing, "form") for thing in odd_things()]:
                for journey in ((), None, (None,)):
                    with self.subTest(call.__name__), self.assertRaises(BadRule) as caught:
                        call(rule, journey)
                    self.assertEqual(caught.exception.part, part)

    def test_then_a_wrong_journey_is_refused(self):
        wrong = [
            (None, None), ([], None), ("ad", None), (aged(*[1] * 201), None), (aged(0, 1), 1), (aged(3, 3, -1), 2),
            (aged(1, True), 1), ((("web", 1),), 0), (aged(10 ** 6 + 1), 0), ((("ad", 1), ["ad", 1]), 1),
            # A touch that is not reached is judged, too.
            ((("web", 9), ("ad", 9)), 0),
        ]
        for call in CALLS:
            for journey, number in wrong:
                with self.subTest(call.__name__), self.assertRaises(BadJourney) as caught:
                    call(rule_with(window=3), journey)
                self.assertEqual(caught.exception.number, number)


if __name__ == "__main__":
    unittest.main()
