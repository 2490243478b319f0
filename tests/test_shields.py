"""touchshare.shields: by hand, beside a second reckoning, papers that hold and papers that do not, what is refused."""

import copy
import itertools
import random
import unittest

from tests.reckoning import longer, random_rule, small_rules, told_kind_credits, told_standing, told_standings
from tests.refusals import check_names, check_refusal, check_refusals
from tests.samples import EVEN, FOUR, GREAT, TOO_GREAT, EqualToAll, LikeTuple, odd_things, rule_with, wrong_rules
from touchshare.errors import BadKind, BadNumber, BadPaper, BadRule, TooGreat
from touchshare.rules import need_journey
from touchshare.shields import check_shield, does_shield, least_shield, shield_paper
from touchshare.sharing import kind_credits
from touchshare.standings import behind, is_standing, standings

CALLS = (does_shield, shield_paper)
MANY = (0, 1, 4, 5, 100)
# By this one two last touches of "a" keep "b" from all credit; "c" is weak.
LAST_TWO = (("a", "b", "c"), 2, None, ("c",), "all", ("last", 2), ("even",))


def credit(rule, journey, kind):
    return kind_credits(rule, journey)[rule[0].index(kind)]


class ByHand(unittest.TestCase):
    def test_the_last_ones(self):
        for many in range(1, 5):
            rule = rule_with(pick=("last", many))
            self.assertEqual(least_shield(rule, "ad", "mail"), many)
            for times in (0, 1, 4, 5, 100):
                self.assertIs(does_shield(rule, "ad", "mail", times), times >= many)
                # No touches shield from what they are themselves.
                self.assertIs(does_shield(rule, "mail", "mail", times), False)
            self.assertIsNone(least_shield(rule, "mail", "mail"))

    def test_the_first_ones(self):
        for once in ("all", "first", "last"):
            self.assertIsNone(least_shield(rule_with(pick=("first", 1), once=once), "ad", "mail"))

    def test_weak_ones(self):
        rule = rule_with(weak=("direct",))
        self.assertEqual(least_shield(rule, "direct", "ad"), 1)
        self.assertIsNone(least_shield(rule, "ad", "direct"))
        self.assertIs(does_shield(rule, "direct", "ad", 1), True)

    def test_no_touches_shield_if_nobody_is_ever_credited(self):
        rule = rule_with(shares=("ages", (4,), (0, 0)))
        for kind, other in itertools.product(EVEN[0], repeat=2):
            self.assertEqual(least_shield(rule, kind, other), 0)
            self.assertTrue(does_shield(rule, kind, other, 0))
            self.assertEqual(shield_paper(rule, kind, other, 0), ("shields", standings(rule)))

    def test_once(self):
        rule = rule_with(once="last", pick=("last", 2))
        self.assertIsNone(least_shield(rule, "ad", "mail"))
        self.assertEqual(least_shield(rule_with(once="last", pick=("last", 1)), "ad", "mail"), 1)

    def test_papers(self):
        rule = (("a", "b"), None, None, (), "all", ("last", 1), ("even",))
        self.assertEqual(shield_paper(rule, "b", "a", 1), ("shields", ((0, 0, ((0, 0),), ()),)))
        self.assertEqual(shield_paper(rule, "b", "a", 0), ("fails", (("b", 0),)))
        self.assertEqual(shield_paper(rule, "a", "a", 2), ("fails", (("a", 0), ("a", 0))))
        self.assertEqual(shield_paper(rule, "b", "a", 100), ("shields", ((0, 0, ((0, 0),), ()),)))
        # Of a JOURNEY as short as can be only those far enough back are credited.
        rule = (("a", "b"), None, 10, (), "all", ("first", 1), ("ages", (25,), (0, 1)))
        word, journey = shield_paper(rule, "b", "a", 3)
        self.assertEqual((word, len(journey), journey[-3:]), ("fails", 6, (("a", 0),) * 3))
        self.assertEqual(credit(rule, journey, "b"), (1, 1))

    def test_a_way_of_many_touches(self):
        rule = (FOUR, 60, 1, (), "all", ("first", 1), ("ages", (60,), (0, 1)))
        word, journey = shield_paper(rule, "d", "a", 100)
        self.assertEqual((word, len(journey)), ("fails", 160))
        self.assertEqual(need_journey(rule, journey), journey)
        self.assertEqual(check_shield(rule, "d", "a", 100, (word, journey)), "fails")


class BesideASecondReckoning(unittest.TestCase):
    def rules(self):
        chance = random.Random(9)
        yield from itertools.islice(small_rules(), 1, None, 11)
        for _ in range(40):
            rule = random_rule(chance)
            try:
                if len(standings(rule)) <= 80:
                    yield rule
            except TooGreat:
                pass

    def test_rules(self):
        for rule in self.rules():
            for other in rule[0][:2]:
                found = {many: self.check_many(rule, other, many) for many in range(6)}
                for kind in rule[0]:
                    shielding = [many for many in range(6) if kind in found[many]]
                    self.assertEqual(least_shield(rule, kind, other), min(shielding, default=None))
                    # More shield as well, and if any number does, 4 do.
                    self.assertEqual(shielding, list(range(min(shielding, default=6), 6)))
                    self.assertNotEqual(shielding, [5])
                    self.assertEqual(does_shield(rule, kind, other, 100), kind in found[5])

    def check_many(self, rule, other, many):
        """The kinds from which so many touches shield, by a second reckoning that is compared."""
        last = ((other, 0),) * many
        told = told_standings(rule, last)
        journeys = list(told.values())
        credits_told = [told_kind_credits(rule, journey) for journey in journeys]
        shielded = []
        for number, kind in enumerate(rule[0]):
            fewest = [len(journey) for journey, parts in zip(journeys, credits_told) if parts[number] > 0]
            self.assertIs(does_shield(rule, kind, other, many), not fewest)
            word, table = paper = shield_paper(rule, kind, other, many)
            if fewest:
                self.assertEqual(word, "fails")
                self.assertEqual(len(table), min(fewest))
                self.assertEqual(table[len(table) - many:], last)
                self.assertGreater(told_kind_credits(rule, need_journey(rule, table))[number], 0)
            else:
                shielded.append(kind)
                self.assertEqual(paper, ("shields", tuple(sorted(told))))
            self.assertEqual(check_shield(rule, kind, other, many, paper), word)
        return shielded

    def test_beside_all_journeys_of_small_rules(self):
        for rule in itertools.islice(small_rules(), 5, None, 17):
            for kind, other, many in (("a", "b", 1), ("b", "a", 2), ("b", "b", 1)):
                journeys = [((other, 0),) * many]
                fewest = None
                # If four touches more bring no credit, no more do: each of them may go as far as is needed.
                for more in range(5):
                    if any(told_kind_credits(rule, journey)["ab".index(kind)] > 0 for journey in journeys):
                        fewest = many + more
                        break
                    if more < 4:
                        journeys = [more_of for journey in journeys for more_of in longer(rule, journey)]
                self.assertIs(does_shield(rule, kind, other, many), fewest is None, (rule, kind, other, many))
                if fewest is not None:
                    self.assertEqual(len(shield_paper(rule, kind, other, many)[1]), fewest)


class Papers(unittest.TestCase):
    def refuse(self, rule, arguments, paper, part):
        names = ("kind", "other", "many")
        check_refusal(self, check_shield, {"rule": rule, **dict(zip(names, arguments)), "paper": paper},
                      (BadPaper, "part", part))

    def test_form(self):
        paper = shield_paper(LAST_TWO, "b", "a", 2)
        self.assertEqual(paper[0], "shields")
        for value in odd_things() + [
                paper[:1], paper + ((),), list(paper), LikeTuple(*paper), ("shield",) + paper[1:], (None,) + paper[1:],
                ("Fails", ()), (b"shields",) + paper[1:], (EqualToAll(),) + paper[1:], ("shields", list(paper[1])),
                ("shields", None), ("fails", []), ("fails", "a"), ("fails", LikeTuple(("a", 0))), (paper[1], "shields"),
                ("", ()), (True, ()), ("shields",), ("shields", {}), ("alike", ()), ("parts", ())]:
            self.refuse(LAST_TWO, ("b", "a", 2), value, "form")

    def test_a_longer_journey_holds(self):
        told = shield_paper(LAST_TWO, "b", "a", 1)
        self.assertEqual((told[0], len(told[1])), ("fails", 2))
        for journey in ((("b", 0), ("a", 0)), (("b", 2), ("a", 0)), (("a", 9), ("b", 2), ("a", 0)),
                        (("c", 10 ** 6), ("a", 2), ("b", 1), ("c", 0), ("a", 0)), (("a", 7),) * 198 + told[1]):
            self.assertEqual(check_shield(LAST_TWO, "b", "a", 1, ("fails", journey)), "fails")

    def test_journeys_that_do_not_hold(self):
        for journey in (
                (), (("a", 0),), (("b", 0),), (("b", 0), ("a", 0), ("a", 0)), (("b", 0), ("a", 1)),
                (("b", 1), ("a", 0), ("c", 0)), (("b", 3), ("a", 0)), (("a", 0), ("a", 0)), (("c", 1), ("a", 0)),
                (("b", -1), ("a", 0)), (("b", True), ("a", 0)), (("b", 0), ("a", False)), (("d", 0), ("b", 0), ("a", 0)),
                (("b", 10 ** 6 + 1), ("b", 0), ("a", 0)), (("b", 1), ("b", 2), ("a", 0)), (["b", 0], ("a", 0)),
                (("b", 0), ["a", 0]), (None, ("a", 0)), (("a", 7),) * 199 + (("b", 0), ("a", 0)), ("b", "a"),
                (("b", 0, 0), ("a", 0)), (("b", 0), ("a", EqualToAll()))):
            self.refuse(LAST_TWO, ("b", "a", 1), ("fails", journey), "fails")
        # Of none a JOURNEY may end as it likes; of many it ends with all of them.
        self.assertEqual(check_shield(LAST_TWO, "b", "a", 0, ("fails", (("b", 2), ("c", 1)))), "fails")
        self.refuse(LAST_TWO, ("a", "a", 3), ("fails", (("a", 0), ("a", 0))), "fails")
        self.assertEqual(check_shield(LAST_TWO, "a", "a", 2, ("fails", (("a", 0), ("a", 0)))), "fails")
        self.refuse(LAST_TWO, ("a", "a", 3), ("fails", (("a", 1), ("a", 0), ("a", 0))), "fails")
        for table in (standings(LAST_TWO), shield_paper(LAST_TWO, "b", "a", 2)[1]):
            self.refuse(LAST_TWO, ("b", "a", 2), ("fails", table), "fails")

    def test_a_greater_table_holds(self):
        table = shield_paper(LAST_TWO, "b", "a", 2)[1]
        # What never comes may stand in it, with all that is behind.
        for never in ((3, 0, table[0][2], ()), (3, 0, (), ((2, 0),))):
            out = (3, 1) + never[2:]
            self.assertTrue(is_standing(LAST_TWO, never))
            greater = tuple(sorted({*table, never, out}))
            self.assertGreater(len(greater), len(table))
            self.assertEqual(check_shield(LAST_TWO, "b", "a", 2, ("shields", greater)), "shields")
        # So may more TOUCHES of the other kind, where less of them are enough.
        for many in (3, 4, 100):
            self.assertEqual(check_shield(LAST_TWO, "b", "a", many, ("shields", table)), "shields")
        rule = LAST_TWO[:6] + (("ages", (1,), (0, 0)),)
        for many in (0, 1, 7):
            self.assertEqual(check_shield(rule, "b", "a", many, ("shields", standings(rule))), "shields")

    def test_a_great_table_holds(self):
        rule = GREAT[:6] + (("ages", (), (0,)),)
        paper = shield_paper(rule, "b", "a", 0)
        self.assertEqual(len(paper[1]), 19722)
        self.assertEqual(check_shield(rule, "b", "a", 0, paper), "shields")
        self.refuse(rule, ("b", "a", 0), (paper[0], paper[1][:-1]), "shields")

    def test_a_table_without_one_of_its_standings_does_not_hold(self):
        for rule, many in ((LAST_TWO, 2), (LAST_TWO[:2] + (1,) + LAST_TWO[3:], 3), (
                LAST_TWO[:6] + (("ages", (1,), (0, 0)),), 0)):
            word, table = shield_paper(rule, "b", "a", many)
            self.assertEqual(word, "shields")
            for place in range(len(table)):
                self.refuse(rule, ("b", "a", many), (word, table[:place] + table[place + 1:]), "shields")

    def test_tables_with_one_thing_otherwise(self):
        word, table = shield_paper(LAST_TWO, "b", "a", 2)
        first = table[0]
        credited = (0, 0, ((0, 0), (1, 0)), ())
        self.assertTrue(is_standing(LAST_TWO, credited))
        for other in ((), table[::-1], table + table[-1:], table[:1] + table, table + (None,), table + (EqualToAll(),),
                      tuple(map(list, table)), ((True,) + first[1:],) + table, ((0, False) + first[2:],) + table[1:],
                      ((0, 0, [*first[2]], ()),) + table[1:], ((0, 0) + first[2:] + (0,),) + table[1:],
                      ((0, 0, ((0, False), (0, 0)), ()),) + table[1:], table + ((4, 0, (), ()),),
                      table[1:] + table[:1], ("a",), (("b", 0), ("a", 0)), (first[0],), first):
            self.refuse(LAST_TWO, ("b", "a", 2), (word, other), "shields")
        # Such that come, but at some of them the kind has a credit.
        closed = {*table, credited}
        layer = [credited]
        while layer:
            more = {behind(LAST_TWO, standing, kind, distance)
                    for standing in layer for kind in "abc" for distance in range(4)} - closed
            closed |= more
            layer = list(more)
        self.refuse(LAST_TWO, ("b", "a", 2), (word, tuple(sorted(closed))), "shields")
        self.refuse(LAST_TWO, ("a", "a", 2), (word, table), "shields")
        self.refuse(LAST_TWO, ("b", "a", 1), (word, table), "shields")
        self.refuse(LAST_TWO, ("b", "a", 0), (word, standings(LAST_TWO)), "shields")
        self.assertEqual(check_shield(LAST_TWO, "c", "a", 2, (word, table)), "shields")

    def test_a_credit_at_out_alone(self):
        # Such a STANDING leads to itself alone, so that nothing lacks behind it.
        word, table = shield_paper(LAST_TWO, "b", "a", 2)
        for pairs, holds in ((((1, 0),), False), (((0, 0),), True)):
            greater = (word, tuple(sorted({*table, (3, 1, pairs, ())})))
            if holds:
                self.assertEqual(check_shield(LAST_TWO, "b", "a", 2, greater), word)
            else:
                self.refuse(LAST_TWO, ("b", "a", 2), greater, "shields")


class Calls(unittest.TestCase):
    def setUp(self):
        self.good = {"rule": EVEN, "kind": "ad", "other": "mail", "many": 1}

    def wrong(self):
        odd = odd_things()
        rules = [("rule", rule, (BadRule, "part", part)) for rule, part in wrong_rules()]
        kinds = [("kind", value, (BadKind, "value", value)) for value in [*odd, "a", "mails", ("ad",)]]
        others = [("other", value, (BadKind, "value", value)) for value in [*odd, "a", "mails", ("ad",)]]
        numbers = [("many", value, (BadNumber, "value", value)) for value in [*odd, -1, 101, 10 ** 6, "1", None]]
        return rules, kinds, others, numbers

    def test_each_is_refused(self):
        rules, kinds, others, numbers = self.wrong()
        paper = shield_paper(**self.good)
        for name, value, told in rules + kinds + others + numbers:
            for call in CALLS:
                check_refusal(self, call, {**self.good, name: value}, told)
            check_refusal(self, check_shield, {**self.good, "paper": paper, name: value}, told)
        good = {name: self.good[name] for name in ("rule", "kind", "other")}
        for name, value, told in rules + kinds + others:
            check_refusal(self, least_shield, {**good, name: value}, told)

    def test_of_two_the_first_one_is_told(self):
        rules, kinds, others, numbers = (some[::7] + some[-2:] for some in self.wrong())
        papers = [("paper", value, (BadPaper, "part", part)) for value, part in (
            (None, "form"), (["shields", ()], "form"), (("shields", ()), "shields"), (("fails", ()), "fails"))]
        for call in CALLS:
            check_refusals(self, call, self.good, rules + kinds + others + numbers)
        check_refusals(self, check_shield, {**self.good, "paper": shield_paper(**self.good)},
                       rules + kinds + others + numbers + papers)
        good = {name: self.good[name] for name in ("rule", "kind", "other")}
        check_refusals(self, least_shield, good, rules + kinds + others)

    def test_numbers_at_the_bounds(self):
        for call in CALLS:
            for many in MANY:
                call(EVEN, "ad", "mail", many)
            for many in (-1, 101, True, False):
                check_refusal(self, call, {**self.good, "many": many}, (BadNumber, "value", many))
        for many in MANY:
            paper = shield_paper(EVEN, "ad", "mail", many)
            self.assertEqual(check_shield(EVEN, "ad", "mail", many, paper), paper[0])

    def test_too_great_is_behind_all_other_errors(self):
        great = (TooGreat, "most", 20000)
        good = {"rule": TOO_GREAT, "kind": "a", "other": "b", "many": 0}
        for call in CALLS:
            check_refusal(self, call, good, great)
            # Also where the kind has a credit at once.
            first_ones = (FOUR, 60, None, (), "all", ("first", 4), ("ages", (30,), (1, 1)))
            check_refusal(self, call, {"rule": first_ones, "kind": "a", "other": "a", "many": 1}, great)
            check_refusal(self, call, {**good, "many": 101}, (BadNumber, "value", 101))
            check_refusal(self, call, {**good, "other": "e"}, (BadKind, "value", "e"))
        check_refusal(self, least_shield, {"rule": TOO_GREAT, "kind": "a", "other": "b"}, great)
        check_refusal(self, least_shield, {"rule": TOO_GREAT, "kind": "a", "other": 1}, (BadKind, "value", 1))

    def test_what_comes_so_is_counted(self):
        # Behind four touches few STANDINGS come, however many the RULE has.
        self.assertTrue(does_shield(TOO_GREAT, "b", "a", 4))
        self.assertEqual(len(shield_paper(TOO_GREAT, "b", "a", 4)[1]), 59)
        self.assertFalse(does_shield(GREAT, "b", "a", 0))

    def test_papers_of_great_rules_are_judged(self):
        self.assertEqual(check_shield(TOO_GREAT, "b", "a", 0, ("fails", (("b", 0),))), "fails")
        self.assertEqual(check_shield(TOO_GREAT, "b", "a", 0, ("fails", (("b", 57), ("c", 3)))), "fails")
        check_refusal(self, check_shield, {"rule": TOO_GREAT, "kind": "b", "other": "a", "many": 0,
                                           "paper": ("shields", ())}, (BadPaper, "part", "shields"))
        paper = shield_paper(TOO_GREAT, "b", "a", 4)
        self.assertEqual(check_shield(TOO_GREAT, "b", "a", 4, paper), "shields")

    def test_names_and_equal_results(self):
        before = copy.deepcopy(self.good)
        for many in (0, 4):
            for call in CALLS:
                first = check_names(self, call, {**self.good, "many": many})
                self.assertEqual(call(**copy.deepcopy({**self.good, "many": many})), first)
            paper = shield_paper(**{**self.good, "many": many})
            check_names(self, check_shield, {**self.good, "many": many, "paper": paper})
        check_names(self, least_shield, {name: self.good[name] for name in ("rule", "kind", "other")})
        self.assertEqual(self.good, before)

    def test_kinds_of_values(self):
        for paper in (shield_paper(EVEN, "ad", "mail", 0), shield_paper(EVEN, "ad", "mail", 4)):
            self.assertEqual([type(paper), type(paper[0]), type(paper[1]), type(paper[1][0])],
                             [tuple, str, tuple, tuple])
        self.assertEqual(told_standing(EVEN, (("mail", 0),) * 4), shield_paper(EVEN, "ad", "mail", 4)[1][0])


if __name__ == "__main__":
    unittest.main()
