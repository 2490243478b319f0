"""touchshare.likes: by hand, beside a second reckoning, papers that hold and papers that do not, what is refused."""

import copy
import itertools
import random
import unittest

from tests.reckoning import all_journeys, random_rule, smallest_rules, told_kind_credits, told_rows
from tests.refusals import check_names, check_refusal, check_refusals
from tests.samples import EVEN, FOUR, GREAT, TOO_GREAT, EqualToAll, LikeTuple, odd_things, rule_with, wrong_rules
from touchshare.errors import BadPaper, BadRule, TooGreat
from touchshare.likes import are_alike, check_like, like_paper, parting
from touchshare.rules import need_journey
from touchshare.sharing import kind_credits
from touchshare.standings import standings

CALLS = (are_alike, parting, like_paper)
SMALL = (("a", "b"), 2, None, (), "all", ("last", 2), ("even",))
# ALIKE to SMALL, and with one touch less that counts.
TWIN = (("a", "b"), 2, None, ("a", "b"), "all", ("last", 2), ("places", ((100,), (50, 50))))
ONE = (("a", "b"), 2, None, (), "all", ("last", 1), ("even",))

# Pairs of rules that are written otherwise and ALIKE.
ALIKE = [
    (EVEN, rule_with(weak=EVEN[0])), (EVEN, rule_with(shares=("ages", (), (1,)))),
    (EVEN, rule_with(shares=("ages", (1, 7), (3, 3, 3)))), (EVEN, rule_with(window=None)),
    (rule_with(pick=("last", 1)), rule_with(pick=("last", 1), once="last", shares=("places", ((100,),)))),
    (rule_with(pick=("first", 1)), rule_with(pick=("first", 1), once="first", shares=("ages", (9,), (1, 2)))),
    (rule_with(shares=("ages", (), (0,))), rule_with(gap=3, weak=("ad",), pick=("last", 1),
    shares=("ages", (9,), (0, 0)))),
    (rule_with(window=3, gap=3), rule_with(window=3)), (rule_with(window=3, gap=24), rule_with(window=3, gap=4)),
    (rule_with(window=2, shares=("ages", (3, 9), (1, 2, 5)), pick=("first", 2)),
    rule_with(window=2, pick=("first", 2))),
    (SMALL, TWIN),
]

# Triples of rules that part, and how many touches the shortest JOURNEYS have of which they do.
PARTS = [
    (SMALL, ONE, 2), (EVEN, rule_with(window=60), 1), (EVEN, rule_with(gap=24), 1), (EVEN, rule_with(weak=("ad",)), 2),
    (EVEN, rule_with(once="last"), 3), (EVEN, rule_with(pick=("last", 3)), 4), (EVEN, rule_with(pick=("first", 4)), 5),
    (rule_with(gap=24, window=60), rule_with(gap=24, window=59), 3), (rule_with(window=60), rule_with(window=59), 1),
    (rule_with(shares=("ages", (60,), (1, 1))), rule_with(shares=("ages", (60,), (1, 0))), 1),
    (rule_with(shares=("places", ((100,), (50, 50), (33, 33, 33), (25, 25, 25, 25)))), EVEN, 3),
    ((FOUR, 60, 1, (), "all", ("first", 1), ("ages", (60,), (0, 1))), (FOUR, 60, 1, (), "all", ("first", 1), (
        "ages", (60,), (0, 0))), 60),
]


class ByHand(unittest.TestCase):
    def test_the_same(self):
        for rule in (EVEN, SMALL, TWIN, ONE, rule_with(gap=3, once="first")):
            again = copy.deepcopy(rule)
            self.assertIs(are_alike(rule, again), True)
            self.assertIsNone(parting(rule, again))
            word, table = like_paper(rule, again)
            self.assertEqual((word, table), ("alike", tuple((standing, standing) for standing in standings(rule))))
            self.assertEqual(check_like(rule, again, (word, table)), "alike")

    def test_alike(self):
        for rules in ALIKE:
            for one, other in (rules, rules[::-1]):
                self.assertIs(are_alike(one, other), True)
                self.assertIsNone(parting(one, other))
                paper = like_paper(one, other)
                self.assertEqual(paper[0], "alike")
                self.assertEqual(list(paper[1]), sorted(set(paper[1])))
                self.assertEqual(check_like(one, other, paper), "alike")

    def test_parting(self):
        for *rules, many in PARTS:
            for one, other in (rules, rules[::-1]):
                self.assertIs(are_alike(one, other), False)
                journey = parting(one, other)
                self.assertEqual(len(need_journey(one, journey)), many)
                self.assertNotEqual(told_kind_credits(one, journey), told_kind_credits(other, journey))
                word, told = paper = like_paper(one, other)
                self.assertEqual((word, len(told)), ("parts", many))
                self.assertNotEqual(kind_credits(one, told), kind_credits(other, told))
                self.assertEqual(check_like(one, other, paper), "parts")

    def test_a_table(self):
        rule = (("a",), None, None, (), "all", ("last", 1), ("even",))
        other = (("a",), None, 0, ("a",), "all", ("last", 1), ("places", ((0,),)))
        self.assertEqual(like_paper(rule, rule[:2] + (None, ("a",)) + rule[4:]), ("alike", (
            ((0, 0, (), ()), (0, 0, (), ())), ((0, 0, ((0, 0),), ()), (0, 0, (), ((0, 0),))))))
        self.assertEqual(like_paper(rule, other), ("parts", (("a", 0),)))
        zero = rule[:6] + (("ages", (), (0,)),)
        first, none, counted = (0, 0, (), ()), (0, 1, (), ()), ((0, 0),)
        self.assertEqual(like_paper(zero, other), ("alike", (
            (first, first), ((0, 0, counted, ()), (0, 0, (), counted)), ((0, 0, counted, ()), none),
            ((0, 0, counted, ()), (0, 1, (), counted)))))


class BesideASecondReckoning(unittest.TestCase):
    def pairs(self):
        chance = random.Random(31)
        rules = smallest_rules(chance, 60)
        yield from zip(rules[::2], rules[1::2])
        for rule in rules[:25]:
            # With one part otherwise many are ALIKE.
            place = chance.choice([1, 2, 3, 4])
            value = chance.choice({1: [None, 0, 1, 2, 3], 2: [None, 0, 1, 2, 3], 3: [(), ("a",), ("b",), ("a", "b")],
                                   4: ["all", "first", "last"]}[place])
            yield rule, rule[:place] + (value,) + rule[place + 1:]

    def test_pairs_that_come(self):
        found = []
        for one, other in self.pairs():
            told = told_rows((one, other))
            unlike = [len(journey) for journey in told.values()
                      if told_kind_credits(one, journey) != told_kind_credits(other, journey)]
            found.append(not unlike)
            self.assertIs(are_alike(one, other), not unlike)
            paper = like_paper(one, other)
            self.assertEqual(check_like(one, other, paper), paper[0])
            if unlike:
                journey = parting(one, other)
                self.assertEqual(paper[0], "parts")
                for parted in (journey, paper[1]):
                    self.assertEqual(len(need_journey(one, parted)), min(unlike))
                    self.assertNotEqual(told_kind_credits(one, parted), told_kind_credits(other, parted))
            else:
                self.assertIsNone(parting(one, other))
                self.assertEqual(paper, ("alike", tuple(sorted(told))))
        self.assertGreater(found.count(True), 8)
        self.assertGreater(found.count(False), 20)

    def test_all_journeys_of_small_rules(self):
        for one, other in itertools.islice(self.pairs(), 0, None, 3):
            journey = parting(one, other)
            fewest = None
            for told in all_journeys("ab", 5, 3):
                if told_kind_credits(one, told) != told_kind_credits(other, told):
                    fewest = len(told)
                    break
            if fewest is not None:
                self.assertEqual(len(journey), fewest)
            else:
                self.assertTrue(journey is None or len(journey) > 3)

    def test_rules_of_all_kinds_and_hours(self):
        chance = random.Random(32)
        for _ in range(40):
            rule = random_rule(chance)
            other = random_rule(chance)
            other = rule[:1] + other[1:3] + (rule[3],) + other[4:]
            try:
                journey = parting(rule, other)
            except TooGreat:
                continue
            if journey is not None:
                self.assertNotEqual(told_kind_credits(rule, journey), told_kind_credits(other, journey))
                if journey:
                    self.assertEqual(told_kind_credits(rule, journey[1:]), told_kind_credits(other, journey[1:]))


class Papers(unittest.TestCase):
    def refuse(self, paper, part, rules=(SMALL, TWIN)):
        check_refusal(self, check_like, {"rule": rules[0], "other": rules[1], "paper": paper}, (BadPaper, "part", part))

    def test_form(self):
        paper = like_paper(SMALL, TWIN)
        for value in odd_things() + [
                paper[:1], paper + ((),), list(paper), LikeTuple(*paper), ("like",) + paper[1:], (None,) + paper[1:],
                ("Alike", ()), (b"alike",) + paper[1:], (EqualToAll(),) + paper[1:], ("alike", list(paper[1])),
                ("alike", None), ("parts", []), ("parts", "a"), ("parts", LikeTuple(("a", 0))), (paper[1], "alike"),
                ("", ()), (True, ()), ("alike",), ("alike", {}), ("shields", ()), ("fails", ()), "alike", None]:
            self.refuse(value, "form")

    def test_a_longer_journey_holds(self):
        told = like_paper(SMALL, ONE)
        self.assertEqual((told[0], len(told[1])), ("parts", 2))
        for journey in ((("a", 0), ("b", 0)), (("b", 2), ("a", 2)), (("a", 9), ("b", 2), ("a", 0)),
                        (("b", 10 ** 6),) * 198 + told[1]):
            self.assertEqual(check_like(SMALL, ONE, ("parts", journey)), "parts")

    def test_journeys_that_do_not_hold(self):
        for journey in (
                (), (("a", 0),), (("a", 0), ("a", 0)), (("b", 3), ("a", 0)), (("a", 0), ("b", 1)),
                (("a", 1), ("b", -1)),
                (("a", 0), ("c", 0)), (("a", True), ("b", 0)), (["a", 0], ("b", 0)), (("a", 0), None), ("a", "b"),
                (("a", 0, 0), ("b", 0)), (("a", 0), ("b", EqualToAll())), (("a", 10 ** 6 + 1), ("a", 1), ("b", 0)),
                (("b", 5),) * 199 + (("a", 0), ("b", 0)), standings(SMALL)):
            self.refuse(("parts", journey), "parts", (SMALL, ONE))
        # Of rules that are ALIKE there is none.
        for journey in all_journeys("ab", 3, 3):
            self.refuse(("parts", journey), "parts")

    def test_a_greater_table_holds(self):
        table = like_paper(SMALL, TWIN)[1]
        out = ((3, 1, (), ()), (3, 1, (), ()))
        never = ((3, 0, (), ()), (3, 0, (), ()))
        # What never comes may stand in it, with all that is behind.
        self.assertNotIn(never, table)
        for more in ({never, out}, {never, ((3, 0, (), ()), (3, 1, (), ())), out}):
            greater = tuple(sorted({*table, *more}))
            self.assertGreater(len(greater), len(table))
            self.assertEqual(check_like(SMALL, TWIN, ("alike", greater)), "alike")
        far = tuple(sorted({*table, ((2, 0, (), ()), (0, 0, (), ()))}))
        self.refuse(("alike", far), "alike")

    def test_a_table_without_one_of_its_pairs_does_not_hold(self):
        word, table = like_paper(SMALL, TWIN)
        for place in range(len(table)):
            self.refuse((word, table[:place] + table[place + 1:]), "alike")

    def test_tables_with_one_thing_otherwise(self):
        word, table = like_paper(SMALL, TWIN)
        (one, other) = table[0]
        last = table[-1]
        tables = [
            (), table[::-1], table + table[-1:], table[:1] + table, table[1:2] + table[:1] + table[2:], table + (None,),
            table + (EqualToAll(),), tuple(map(list, table)), (None,) + table, table[1:], (one,) + table[1:],
            ((one, other, other),) + table[1:], ([one, other],) + table[1:], (LikeTuple(one, other),) + table[1:],
            ((list(one), other),) + table[1:], ((one, list(other)),) + table[1:], ((one, None),) + table[1:],
            ((one[:3], other),) + table[1:], ((one + (0,), other),) + table[1:], tuple(standings(SMALL)),
            tuple((other, one) for one, other in table), tuple((one, one) for one, _ in table), table + ((last, last),),
        ]
        for value in (True, -1, 4, None, "0", 10 ** 40, EqualToAll()):
            tables += [(((value,) + one[1:], other),) + table[1:], ((one, (value,) + other[1:]),) + table[1:]]
        for value in (False, 2, None, EqualToAll()):
            tables += [((one[:1] + (value,) + one[2:], other),) + table[1:],
                       ((one, other[:1] + (value,) + other[2:]),) + table[1:]]
        # Each thing of the last PAIR, at any depth.
        (age, out, strong, _), (_, _, _, soft) = last
        for wrong in ((("a", 0),), ((2, 0),), ((0, 1),), ((0,),), ((0, 0, 0),), ([0, 0],), ((True, 0),), ((0, False),),
            (None,),
                      [(0, 0)], None, strong * 2, (EqualToAll(),)):
            tables += [table[:-1] + (((age, out, wrong, ()), (age, out, (), soft)),),
                       table[:-1] + (((age, out, strong, ()), (age, out, (), wrong)),),
                       table[:-1] + (((age, out, strong, wrong), (age, out, (), soft)),)]
        for told in tables:
            self.refuse((word, told), "alike")

    def test_a_table_of_unlike_credits_does_not_hold(self):
        for one, other in ((SMALL, ONE), (ONE, SMALL)):
            told = tuple(sorted(told_rows((one, other))))
            self.refuse(("alike", told), "alike", (one, other))
        # It is closed, but the CREDITS are unlike at a PAIR that never comes.
        table = like_paper(SMALL, TWIN)[1]
        unlike = {((3, 1, ((0, 0),), ()), (3, 1, (), ((1, 0),)))}
        self.refuse(("alike", tuple(sorted({*table, *unlike}))), "alike")

    def test_a_great_table(self):
        paper = like_paper(GREAT, GREAT)
        self.assertEqual((paper[0], len(paper[1])), ("alike", 19722))
        self.assertEqual(check_like(GREAT, GREAT, paper), "alike")
        self.refuse((paper[0], paper[1][:-1]), "alike", (GREAT, GREAT))


class Refusals(unittest.TestCase):
    def wrong(self):
        return [(name, value, (BadRule, "part", part)) for name in ("rule", "other") for value, part in wrong_rules()]

    def test_which_error_is_due(self):
        for call in CALLS:
            check_refusals(self, call, {"rule": EVEN, "other": TOO_GREAT}, self.wrong())
        check_refusals(self, check_like, {"rule": EVEN, "other": rule_with(window=3), "paper": ("parts", (("ad", 7),))},
                       self.wrong() + [("paper", None, (BadPaper, "part", "form")),
                                       ("paper", ("alike", ()), (BadPaper, "part", "alike")),
                                       ("paper", ("parts", ()), (BadPaper, "part", "parts"))])

    def test_other_kinds(self):
        for kinds in (("ad",), ("ad", "direct"), ("ad", "direct", "mails"), ("ad", "direct", "mail", "z")):
            other = rule_with(kinds=kinds)
            for rules in ((EVEN, other), (other, EVEN), (TOO_GREAT, EVEN)):
                arguments = dict(zip(("rule", "other"), rules))
                for call in CALLS:
                    check_refusal(self, call, arguments, (BadRule, "part", "unlike"))
                for paper in (None, ("alike", ()), ("parts", ())):
                    check_refusal(self, check_like, {**arguments, "paper": paper}, (BadRule, "part", "unlike"))
        # What is no rule at all is told ahead of it.
        check_refusal(self, are_alike, {"rule": EVEN, "other": rule_with(kinds=("z",), window=61)},
                      (BadRule, "part", "window"))

    def test_too_great(self):
        for call in CALLS:
            for rules in ((TOO_GREAT, TOO_GREAT), (TOO_GREAT, GREAT), (GREAT, TOO_GREAT),
                (GREAT, GREAT[:2] + (7,) + GREAT[3:])):
                check_refusal(self, call, dict(zip(("rule", "other"), rules)), (TooGreat, "most", 20000))
        # Papers are checked however great they may be.
        self.assertEqual(check_like(TOO_GREAT, GREAT, ("parts", (("a", 57),))), "parts")
        check_refusal(self, check_like, {"rule": TOO_GREAT, "other": GREAT, "paper": ("alike", ())},
                      (BadPaper, "part", "alike"))

    def test_at_most_20000_are_not_too_great(self):
        self.assertTrue(are_alike(GREAT, GREAT))
        self.assertIsNone(parting(GREAT, GREAT))
        other = GREAT[:5] + (("last", 1),) + GREAT[6:]
        self.assertEqual(len(parting(GREAT, other)), 2)

    def test_names(self):
        good = {"rule": SMALL, "other": TWIN}
        for call in CALLS:
            check_names(self, call, good)
            check_names(self, call, {"rule": SMALL, "other": ONE})
        check_names(self, check_like, {**good, "paper": like_paper(**good)})
        self.assertEqual(good, {"rule": copy.deepcopy(SMALL), "other": copy.deepcopy(TWIN)})


if __name__ == "__main__":
    unittest.main()
