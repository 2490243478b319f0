"""touchshare.menus: by hand, beside a second reckoning, and what is refused."""

import copy
import itertools
import random
import unittest
from fractions import Fraction

from tests.reckoning import all_journeys, random_journey, random_rule, smallest_rules, told_kind_credits, told_rows
from tests.refusals import check_names, check_refusal, check_refusals
from tests.samples import (EVEN, FOUR, GREAT, TOO_GREAT, EqualToAll, LikeInteger, LikeTuple, odd_things, rule_with,
                           wrong_rules)
from touchshare.errors import BadJourney, BadMenu, BadPaid, TooGreat
from touchshare.likes import are_alike
from touchshare.menus import fitting_rules, lots, need_menu, parted_by, parting_journeys, parting_most
from touchshare.rules import need_journey
from touchshare.sharing import kind_credits

FIRST = rule_with(pick=("first", 1))
LAST = rule_with(pick=("last", 1))
NEAR = rule_with(pick=("last", 1), window=9)
MENU = (FIRST, LAST, EVEN)
# No one JOURNEY parts all: the first two are parted where a touch is far, the last two where it is near.
CLASSES = tuple((("a",), 3, None, (), "all", ("last", 1), ("ages", (2,), weights))
                for weights in ((1, 0), (1, 1), (0, 1)))
CALLS = (lots, parting_most, parting_journeys)


def fall(menu, journey):
    """The LOTS into which a MENU falls by a JOURNEY."""
    told = [told_kind_credits(rule, journey) for rule in menu]
    return tuple(sorted({tuple(n for n, other in enumerate(told) if other == one) for one in told}))


def pairs_parted(lots_told, many):
    """The pairs of numbers of rules that are in two lots."""
    return {(one, other) for one, other in itertools.combinations(range(many), 2)
            if not any(one in lot and other in lot for lot in lots_told)}


class NeedMenu(unittest.TestCase):
    def refuse(self, value, number):
        check_refusal(self, need_menu, {"thing": value}, (BadMenu, "number", number))

    def test_what_is_one(self):
        for menu in ((EVEN,), (EVEN, EVEN), MENU, (EVEN, EVEN, EVEN, EVEN), (GREAT,), (TOO_GREAT, GREAT)):
            self.assertIs(need_menu(menu), menu)
            self.assertIs(need_menu(thing=menu), menu)

    def test_what_is_no_tuple_of_1_to_4_things(self):
        for value in (None, 0, "", "menu", [], [EVEN], {}, (), (EVEN,) * 5, (None,) * 5, LikeTuple(EVEN), {EVEN}, True,
                      EqualToAll()):
            self.refuse(value, None)
        # A RULE alone is a tuple of seven things.
        self.refuse(EVEN, None)

    def test_the_first_wrong_rule(self):
        for value, _ in wrong_rules():
            for place in range(4):
                menu = [EVEN] * 4
                menu[place] = value
                self.refuse(tuple(menu), place)
                menu[3] = value
                self.refuse(tuple(menu), place)
        for value in odd_things():
            self.refuse((value,), 0)
            self.refuse((EVEN, value, value), 1)

    def test_other_kinds_than_the_first_one(self):
        for kinds in (("ad",), ("ad", "direct"), ("ad", "direct", "mails"), ("ad", "direct", "mail", "z")):
            other = rule_with(kinds=kinds)
            self.refuse((EVEN, other), 1)
            self.refuse((other, EVEN, EVEN), 1)
            self.refuse((EVEN, EVEN, other, None), 2)
            self.refuse((EVEN, EVEN, EVEN, other), 3)
            self.refuse((None, other), 0)


class Fitting(unittest.TestCase):
    def test_by_hand(self):
        journey = (("ad", 30), ("mail", 2))
        none, half, whole = (0, 1), (1, 2), (1, 1)
        self.assertEqual(fitting_rules(MENU, ()), (0, 1, 2))
        self.assertEqual(fitting_rules(MENU, ((journey, (whole, none, none)),)), (0,))
        self.assertEqual(fitting_rules(MENU, ((journey, (none, none, whole)),)), (1,))
        self.assertEqual(fitting_rules(MENU, ((journey, (half, none, half)),)), (2,))
        self.assertEqual(fitting_rules(MENU, ((journey, (half, half, none)),)), ())
        self.assertEqual(fitting_rules(MENU, ((journey[:1], (whole, none, none)), ((), (none, none, none)))), (0, 1, 2))
        self.assertEqual(fitting_rules(MENU + (LAST,), ((journey, (none, none, whole)),) * 40), (1, 3))
        self.assertEqual(fitting_rules(MENU, ((journey, (none, none, whole)), (journey, (whole, none, none)))), ())
        # Such FRACTIONS may have been paid, but by no RULE.
        for odd in ((-1, 2), (3, 2), (10 ** 39, 1), (-(10 ** 39), 7)):
            self.assertEqual(fitting_rules(MENU, ((journey, (whole, none, odd)),)), ())

    def test_beside_the_credits(self):
        chance = random.Random(61)
        for _ in range(60):
            rules = [random_rule(chance) for _ in range(chance.randint(1, 4))]
            menu = tuple(rules[0][:1] + rule[1:3] + ((),) + rule[4:] for rule in rules)
            journeys = [random_journey(chance, menu[0][0]) for _ in range(chance.randint(0, 3))]
            paid = tuple((journey, kind_credits(chance.choice(menu), journey)) for journey in journeys)
            told = [number for number, rule in enumerate(menu) if all(
                told_kind_credits(rule, journey) == tuple(Fraction(*amount) for amount in amounts)
                for journey, amounts in paid)]
            self.assertEqual(fitting_rules(menu, paid), tuple(told))

    def test_what_can_not_be_paid(self):
        none, whole = (0, 1), (1, 1)
        good = ((("ad", 3),), (whole, none, none))
        check_names(self, fitting_rules, {"menu": MENU, "paid": (good,) * 40})
        for value in (None, 0, "", [], [good], {}, (good,) * 41, (None,) * 41, LikeTuple(good), EqualToAll()):
            check_refusal(self, fitting_rules, {"menu": MENU, "paid": value}, (BadPaid, "number", None))
        journey, amounts = good
        wrong = odd_things() + [
            None, good[:1], good + (none,), list(good), LikeTuple(*good), (amounts, journey), ((("no", 3),), amounts),
            ((("ad", True),), amounts), ((("ad", 3), ("ad", 4)), amounts), ([("ad", 3)], amounts), (None, amounts),
            ((("ad", 3),) * 201, amounts), (journey, None), (journey, list(amounts)), (journey, amounts[:2]),
            (journey, amounts + (none,)), (journey, ()), (journey, LikeTuple(*amounts)), (journey, (1, 0, 0)),
            (journey, ((2, 2), none, none)), (journey, (whole, (0, 2), none)), (journey, (whole, none, (2, 4))),
            (journey, (whole, none, (-2, 4))), (journey, (whole, none, (0, -1))), (journey, (whole, none, (1, 0))),
            (journey, (whole, none, (0, 0))), (journey, ((True, 1), none, none)), (journey, (whole, (0, True), none)),
            (journey, (whole, none, None)), (journey, (whole, none, [0, 1])), (journey, (whole, none, (0,))),
            (journey, (whole, none, (0, 1, 1))), (journey, (whole, none, "01")),
            (journey, (whole, none, LikeTuple(0, 1))),
            (journey, (whole, none, (LikeInteger(), 1))), (journey, (whole, none, EqualToAll())),
            (journey, (whole, none, (EqualToAll(), 1))), (journey, ("1/1", "0/1", "0/1")),
        ]
        for value in wrong:
            for place in (0, 2, 39):
                paid = (good,) * place + (value,) + (None,) * (39 - place)
                check_refusal(self, fitting_rules, {"menu": MENU, "paid": paid}, (BadPaid, "number", place))


class ByHand(unittest.TestCase):
    def test_lots(self):
        self.assertEqual(lots((EVEN,)), ((0,),))
        self.assertEqual(lots((EVEN,) * 4), ((0, 1, 2, 3),))
        self.assertEqual(lots(MENU), ((0,), (1,), (2,)))
        self.assertEqual(lots((LAST, FIRST, LAST, FIRST)), ((0, 2), (1, 3)))
        self.assertEqual(lots((LAST, FIRST, FIRST, LAST)), ((0, 3), (1, 2)))
        self.assertEqual(lots((EVEN, rule_with(weak=EVEN[0]), LAST)), ((0, 1), (2,)))

    def test_parted_by(self):
        self.assertEqual(parted_by(MENU, ()), ((0, 1, 2),))
        self.assertEqual(parted_by(MENU, (("ad", 4),)), ((0, 1, 2),))
        self.assertEqual(parted_by(MENU, (("ad", 4), ("mail", 4))), ((0,), (1,), (2,)))
        self.assertEqual(parted_by(MENU, (("ad", 4), ("mail", 4), ("ad", 4))), ((0, 1), (2,)))
        self.assertEqual(parted_by((FIRST, NEAR, LAST), (("ad", 40), ("mail", 12))), ((0,), (1,), (2,)))
        self.assertEqual(parted_by((LAST, NEAR, FIRST), (("ad", 40),)), ((0, 2), (1,)))
        self.assertEqual(parted_by((TOO_GREAT, GREAT), (("a", 57),)), ((0,), (1,)))
        self.assertEqual(parted_by((EVEN,), (("ad", 4), ("mail", 4))), ((0,),))

    def test_parting_most(self):
        self.assertEqual(parting_most((EVEN,)), ())
        self.assertEqual(parting_most((EVEN, EVEN)), ())
        self.assertEqual(len(parting_most(MENU)), 2)
        self.assertEqual(len(parting_most((FIRST, LAST, LAST))), 2)
        self.assertEqual(len(parting_most((FIRST, LAST, NEAR))), 2)
        self.assertEqual(len(parting_most((LAST, NEAR))), 1)
        self.assertEqual(len(parting_most(CLASSES)), 1)

    def test_parting_journeys(self):
        self.assertEqual(parting_journeys((EVEN,)), ())
        self.assertEqual(parting_journeys((EVEN, EVEN, rule_with(weak=EVEN[0]))), ())
        self.assertEqual(len(parting_journeys(MENU)), 1)
        self.assertEqual(len(parting_journeys((FIRST, LAST, NEAR, NEAR))), 1)

    def test_no_journey_parts_all_at_once(self):
        # By each JOURNEY two of them credit the same.
        self.assertEqual(lots(CLASSES), ((0,), (1,), (2,)))
        self.assertEqual(len(parted_by(CLASSES, parting_most(CLASSES))), 2)
        found = parting_journeys(CLASSES)
        self.assertEqual(len(found), 2)
        self.assertEqual({parted_by(CLASSES, journey) for journey in found}, {((0, 1), (2,)), ((0,), (1, 2))})
        # Of four rules three are needed.
        menu = tuple((("a",), 9, None, (), "all", ("last", 1), ("ages", (2, 4), weights))
                     for weights in ((1, 1, 1), (0, 1, 1), (1, 0, 1), (1, 1, 0)))
        found = parting_journeys(menu)
        self.assertEqual(len(found), 3)
        self.assertEqual(set.union(*(pairs_parted(parted_by(menu, journey), 4) for journey in found)),
                         set(itertools.combinations(range(4), 2)))


class BesideASecondReckoning(unittest.TestCase):
    def menus(self):
        chance = random.Random(62)
        for number in range(45):
            menu = smallest_rules(chance, 1 + number % 3)
            if chance.random() < 0.5:
                menu.append(chance.choice(menu))
            elif len(menu) < 4:
                # With one part otherwise.
                rule = chance.choice(menu)
                place = chance.choice([1, 2, 4])
                value = chance.choice([0, 1, 2]) if place < 3 else chance.choice(["all", "first", "last"])
                menu.append(rule[:place] + (value,) + rule[place + 1:])
            chance.shuffle(menu)
            yield tuple(menu)
        for weights in itertools.permutations(((1, 1, 1), (0, 1, 1), (1, 0, 1), (2, 2, 0)), 3):
            yield tuple((("a", "b"), 3, None, (), "all", ("last", 1), ("ages", (1, 2), some)) for some in weights)

    def test_rows_that_come(self):
        counts = set()
        for menu in self.menus():
            journeys = list(told_rows(menu).values())
            falls = {}
            for journey in journeys:
                falls.setdefault(fall(menu, journey), len(journey))
            parted = set.union(*(pairs_parted(one, len(menu)) for one in falls))
            self.assertEqual(pairs_parted(lots(menu), len(menu)), parted)
            self.assertEqual(sorted(itertools.chain(*lots(menu))), list(range(len(menu))))
            self.assertEqual(list(lots(menu)), sorted(tuple(sorted(lot)) for lot in lots(menu)))
            for one, other in itertools.combinations(range(len(menu)), 2):
                self.assertEqual(are_alike(menu[one], menu[other]), (one, other) not in parted)
            most = max(map(len, falls))
            journey = parting_most(menu)
            self.assertEqual(len(fall(menu, need_journey(menu[0], journey))), most)
            self.assertEqual(parted_by(menu, journey), fall(menu, journey))
            self.assertEqual(len(journey), min(many for one, many in falls.items() if len(one) == most))
            counts.add((len(lots(menu)), most, self.check_journeys(menu, falls, parted)))
        self.assertIn((3, 2, 2), counts)
        self.assertIn((3, 3, 1), counts)
        self.assertIn((1, 1, 0), counts)

    def check_journeys(self, menu, falls, parted):
        found = parting_journeys(menu)
        self.assertIsInstance(found, tuple)
        covered = [pairs_parted(fall(menu, need_journey(menu[0], journey)), len(menu)) for journey in found]
        self.assertEqual(set().union(*covered), parted)
        for fewer in range(len(found)):
            for chosen in itertools.combinations(falls, fewer):
                self.assertNotEqual(set().union(*(pairs_parted(one, len(menu)) for one in chosen)), parted)
        self.assertLess(len(found), len(lots(menu)))
        return len(found)

    def test_all_journeys_of_small_menus(self):
        for menu in itertools.islice(self.menus(), 0, None, 4):
            parted = pairs_parted(lots(menu), len(menu))
            most, fewest = 0, 0
            for journey in all_journeys(menu[0][0], 5, 3):
                told = fall(menu, journey)
                self.assertEqual(parted_by(menu, journey), told)
                self.assertLessEqual(pairs_parted(told, len(menu)), parted)
                if len(told) > most:
                    most, fewest = len(told), len(journey)
            journey = parting_most(menu)
            if len(fall(menu, journey)) == most:
                self.assertEqual(len(journey), fewest)
            else:
                self.assertGreater(len(journey), 3)


class Refusals(unittest.TestCase):
    def wrong(self):
        return [("menu", None, (BadMenu, "number", None)), ("menu", (), (BadMenu, "number", None)),
                ("menu", [EVEN], (BadMenu, "number", None)), ("menu", (EVEN,) * 5, (BadMenu, "number", None)),
                ("menu", (EVEN, None), (BadMenu, "number", 1)), ("menu", (EVEN, GREAT), (BadMenu, "number", 1)),
                ("menu", (rule_with(window=61), EVEN), (BadMenu, "number", 0)),
                ("menu", (TOO_GREAT, TOO_GREAT, EVEN), (BadMenu, "number", 2))]

    def test_which_error_is_due(self):
        for call in CALLS:
            check_refusals(self, call, {"menu": (LAST, FIRST)}, self.wrong())
        check_refusals(self, fitting_rules, {"menu": MENU, "paid": ()}, self.wrong() + [
            ("paid", None, (BadPaid, "number", None)), ("paid", (None,), (BadPaid, "number", 0))])
        check_refusals(self, parted_by, {"menu": MENU, "journey": ()}, self.wrong() + [
            ("journey", None, (BadJourney, "number", None)), ("journey", [], (BadJourney, "number", None)),
            ("journey", (("ad", 3), ("ad", 4)), (BadJourney, "number", 1)),
            ("journey", (("no", 3),), (BadJourney, "number", 0)),
            ("journey", (("ad", 3),) * 201, (BadJourney, "number", None))])

    def test_too_great(self):
        for call in CALLS:
            for menu in ((TOO_GREAT,), (TOO_GREAT, TOO_GREAT), (GREAT, GREAT[:5] + (("first", 4),) + GREAT[6:])):
                check_refusal(self, call, {"menu": menu}, (TooGreat, "most", 20000))
        self.assertEqual(fitting_rules((TOO_GREAT,), ((((("a", 5),)), ((1, 1), (0, 1), (0, 1), (0, 1))),)), (0,))

    def test_at_most_20000_are_not_too_great(self):
        menu = (GREAT, GREAT[:5] + (("last", 1),) + GREAT[6:], GREAT)
        self.assertEqual(GREAT[0], FOUR)
        self.assertEqual(lots(menu), ((0, 2), (1,)))
        self.assertEqual(len(parting_most(menu)), 2)
        self.assertEqual([len(journey) for journey in parting_journeys(menu)], [2])
        self.assertEqual(parting_most((GREAT,)), ())

    def test_names(self):
        for call in CALLS:
            check_names(self, call, {"menu": MENU})
        check_names(self, parted_by, {"menu": MENU, "journey": (("ad", 4), ("mail", 4))})
        menu = copy.deepcopy(CLASSES)
        for call in CALLS:
            call(menu)
        self.assertEqual(menu, CLASSES)


if __name__ == "__main__":
    unittest.main()
