"""touchshare.gains: by hand, beside a second reckoning, papers that hold and papers that do not, what is refused."""

import copy
import random
import unittest
from fractions import Fraction

from tests.reckoning import (all_journeys, all_put_in, as_pair, random_journey, random_rule, smallest_rules, told_gain,
                             told_tracks, without)
from tests.refusals import check_names, check_refusal, check_refusals
from tests.samples import GREAT, MORE_TRACKS, MOST_TRACKS, EqualToAll, LikeTuple, odd_things, rule_with, wrong_rules
from touchshare.errors import BadKind, BadPaper, BadRule, TooGreat
from touchshare.gains import check_gain, gain_journey, gain_paper, least_gain, most_gain
from touchshare.rules import need_journey
from touchshare.sharing import kind_credits

CALLS = (most_gain, least_gain, gain_journey, gain_paper)
NONE, HALF, WHOLE = (0, 1), (1, 2), (1, 1)
SMALL = (("a", "b"), 2, None, (), "all", ("last", 2), ("even",))
GAPS = (("a", "b"), None, 1, (), "all", ("last", 2), ("even",))
# A place further back brings more: each touch more brings one of the other kind further back.
BACK = (("a", "b"), None, None, (), "all", ("last", 2), ("places", ((10,), (60, 20))))


def gained(rule, journey, number, kind):
    place = rule[0].index(kind)
    parts = [Fraction(*kind_credits(rule, told)[place]) for told in (journey, without(journey, number))]
    return as_pair(parts[0] - parts[1])


class ByHand(unittest.TestCase):
    def test_the_last_ones(self):
        rule = rule_with(pick=("last", 1))
        self.assertEqual(most_gain(rule, "ad", "ad"), WHOLE)
        self.assertEqual(least_gain(rule, "ad", "ad"), NONE)
        self.assertEqual(most_gain(rule, "ad", "mail"), NONE)
        self.assertEqual(least_gain(rule, "ad", "mail"), (-1, 1))
        self.assertEqual(gain_journey(rule, "ad", "ad"), ((("ad", 0),), 0))
        journey, number = gain_journey(rule, "ad", "mail", least=True)
        self.assertEqual(([kind for kind, _ in journey], number), (["ad", "mail"], 1))

    def test_gains_that_are_fractions(self):
        self.assertEqual(most_gain(SMALL, "a", "a"), WHOLE)
        self.assertEqual(least_gain(SMALL, "a", "b"), (-1, 2))
        self.assertEqual(most_gain(BACK, "b", "a"), HALF)
        self.assertEqual(most_gain(BACK, "a", "a"), (7, 10))
        self.assertEqual(least_gain(BACK, "a", "a"), (-2, 5))
        self.assertEqual(least_gain(BACK, "a", "b"), (-3, 5))
        journey, number = gain_journey(BACK, "a", "a", least=True)
        self.assertEqual(([kind for kind, _ in journey], number), (["a", "b", "a"], 2))

    def test_none_is_ever_credited(self):
        rule = rule_with(window=1, pick=("last", 1), shares=("places", ((0,),)))
        for kind, other in (("ad", "ad"), ("ad", "mail")):
            self.assertEqual(most_gain(rule, kind, other), NONE)
            self.assertEqual(least_gain(rule, kind, other), NONE)
            for least in (False, True):
                journey, number = gain_journey(rule, kind, other, least=least)
                self.assertEqual((len(journey), journey[0][0], number), (1, other, 0))

    def test_a_touch_that_fills_a_gap(self):
        rule = (("a", "b"), None, 2, (), "all", ("first", 1), ("even",))
        # By one touch of "b" more an "a" that was behind a pause is reached.
        self.assertEqual(most_gain(rule, "a", "b"), WHOLE)
        journey, number = gain_journey(rule, "a", "b")
        self.assertEqual(([kind for kind, _ in journey], number), (["a", "b"], 1))
        self.assertEqual(gained(rule, journey, number, "a"), WHOLE)
        self.assertGreater(journey[0][1], 2)

    def test_slack(self):
        # The touch put in must lie far back, and what comes behind it further still.
        rule = (("a", "b"), 9, None, (), "all", ("first", 1), ("ages", (4, 7), (0, 1, 0)))
        self.assertEqual(least_gain(rule, "b", "a"), (-1, 1))
        journey, number = gain_journey(rule, "b", "a", least=True)
        self.assertEqual(gained(rule, journey, number, "b"), (-1, 1))
        self.assertEqual(len(journey), 2)

    def test_a_paper(self):
        rule = (("a",), None, None, (), "all", ("last", 1), ("even",))
        first, counted = (0, 0, (), ()), (0, 0, ((0, 0),), ())
        self.assertEqual(gain_paper(rule, "a", "a"), (WHOLE, (
            (first, first, 0, 0), (first, counted, 0, 1), (counted, counted, 0, 0), (counted, counted, 0, 1)),
            (("a", 0),), 0))


class BesideASecondReckoning(unittest.TestCase):
    def check_both(self, rule, kind, other, told):
        """Both extremes and their JOURNEYS, beside pairs of what is gained and how long the JOURNEY with it is."""
        gains = [gain for gain, _ in told]
        for least, call, extreme in ((False, most_gain, max(gains)), (True, least_gain, min(gains))):
            self.assertEqual(call(rule, kind, other), as_pair(extreme))
            journey, number = gain_journey(rule, kind, other, least=least)
            self.assertEqual(len(journey), min(many for gain, many in told if gain == extreme))
            self.assertEqual(need_journey(rule, journey)[number][0], other)
            self.assertEqual(told_gain(rule, journey, number, kind), extreme)
        self.assertEqual(gain_journey(rule, kind, other), gain_journey(rule, kind, other, least=False))
        return as_pair(max(gains))

    def test_tracks_that_come(self):
        chance = random.Random(41)
        seen = set()
        for rule in smallest_rules(chance, 60):
            for other in rule[0]:
                tracks = told_tracks(rule, other)
                for kind in rule[0]:
                    told = [(told_gain(rule, journey, number, kind), len(journey))
                            for journey, number in tracks.values() if number is not None]
                    most = self.check_both(rule, kind, other, told)
                    gain, table, journey, number = paper = gain_paper(rule, kind, other)
                    self.assertEqual((gain, table), (most, tuple(sorted(tracks))))
                    self.assertEqual((journey, number), gain_journey(rule, kind, other))
                    self.assertEqual(check_gain(rule, kind, other, paper), most)
                    seen.update(gain for gain, _ in told)
        self.assertGreater(len(seen), 12)

    def test_all_journeys_of_small_rules(self):
        chance = random.Random(42)
        journeys = list(all_journeys("ab", 4, 2))
        for rule in smallest_rules(chance, 25):
            for kind, other in (("a", "a"), ("a", "b"), ("b", "a")):
                most, least = (Fraction(*call(rule, kind, other)) for call in (most_gain, least_gain))
                found = {}
                for journey in journeys:
                    for more, number in all_put_in(journey, other, 5):
                        found.setdefault(told_gain(rule, more, number, kind), len(more))
                self.assertLessEqual(max(found), most)
                self.assertGreaterEqual(min(found), least)
                for extreme, wanted in ((most, False), (least, True)):
                    journey, _ = gain_journey(rule, kind, other, least=wanted)
                    if extreme in found:
                        self.assertEqual(len(journey), found[extreme])
                    else:
                        self.assertGreater(len(journey), 3)

    def test_no_journey_gains_more(self):
        chance = random.Random(43)
        tried = 0
        while tried < 60:
            rule = random_rule(chance)
            kind, other = chance.choice(rule[0]), chance.choice(rule[0])
            try:
                most, least = (Fraction(*call(rule, kind, other)) for call in (most_gain, least_gain))
            except TooGreat:
                continue
            tried += 1
            for _ in range(6):
                journey = random_journey(chance, rule[0])
                greatest = (journey[0][1] if journey else 0) + 70
                for more, number in all_put_in(journey, other, greatest):
                    self.assertTrue(least <= told_gain(rule, more, number, kind) <= most)

    def test_journeys_of_200_touches(self):
        chance = random.Random(44)
        for rule in (SMALL, BACK, GAPS, (("a", "b"), 3, 1, ("b",), "first", ("first", 2), ("ages", (2,), (1, 3)))):
            most, least = (Fraction(*call(rule, "a", "b")) for call in (most_gain, least_gain))
            for step in (0, 1, 40):
                journey = tuple((chance.choice("ab"), (199 - place) * step // 10) for place in range(200))
                for more, number in all_put_in(journey, "b", journey[0][1] + 3):
                    if number < 8 or number > 190:
                        self.assertEqual(len(more), 201)
                        self.assertTrue(least <= told_gain(rule, more, number, "a") <= most)


class Papers(unittest.TestCase):
    def setUp(self):
        self.paper = gain_paper(SMALL, "a", "b")

    def refuse(self, paper, part, rule=SMALL, kinds=("a", "b")):
        check_refusal(self, check_gain, {"rule": rule, "kind": kinds[0], "other": kinds[1], "paper": paper},
                      (BadPaper, "part", part))

    def test_form(self):
        gain, *rest = self.paper
        for value in odd_things() + [None, self.paper[:3], self.paper + (0,), list(self.paper),
            LikeTuple(*self.paper)] + [
                (wrong, *rest) for wrong in (
                    None, 0, 1, "0/1", (0,), (0, 1, 1), [0, 1], LikeTuple(0, 1), (0, 2), (2, 4), (-2, 4), (1, 0),
                    (1, -1),
                    (0, -1), (True, 1), (0, True), (None, 1), (1, None), ((0,), 1), (EqualToAll(), 1),
                    (0, EqualToAll()))]:
            self.refuse(value, "form")
        self.assertEqual(gain, NONE)

    def test_gains_that_are_no_gain_of_it(self):
        _, table, journey, number = self.paper
        # A FRACTION it may be, whatever its size; below the MOST GAIN no TABLE holds, above it no JOURNEY.
        for gain in ((-1, 2), (-1, 1), (-(10 ** 39), 1), (-1, 10 ** 39)):
            self.refuse((gain, table, journey, number), "table")
            self.refuse((gain, None, None, None), "table")
        for gain in ((1, 2), (1, 1), (3, 2), (10 ** 39, 7), (1, 10 ** 39)):
            self.refuse((gain, table, journey, number), "journey")
        # A JOURNEY that brings just this does not help the TABLE.
        journey, number = gain_journey(SMALL, "a", "b", least=True)
        self.refuse(((-1, 2), table, journey, number), "table")

    def test_a_longer_journey_holds(self):
        gain, table, _, _ = self.paper
        for journey, number in (((("b", 0), ("b", 0)), 0), ((("b", 9),), 0), ((("a", 9), ("b", 2)), 1),
                                ((("a", 9), ("b", 7), ("a", 0)), 1), ((("b", 10 ** 6),) * 200, 0),
                                ((("b", 10 ** 6),) * 200, 199)):
            self.assertEqual(check_gain(SMALL, "a", "b", (gain, table, journey, number)), gain)
        gain, table, journey, number = gain_paper(SMALL, "a", "a")
        self.assertEqual(gain, WHOLE)
        for journey, number in (((("b", 3), ("a", 2)), 1), ((("a", 1),), 0), ((("b", 9),) * 199 + (("a", 0),), 199)):
            self.assertEqual(check_gain(SMALL, "a", "a", (gain, table, journey, number)), gain)

    def test_journeys_that_do_not_hold(self):
        gain, table, journey, number = gain_paper(SMALL, "a", "a")
        self.assertEqual((gain, len(journey), number), (WHOLE, 1, 0))
        for journey, number in (
                ((), 0), ((), -1), ((("b", 0),), 0), ((("a", 3),), 0), ((("a", 0), ("a", 0)), 1),
                ((("a", 0), ("b", 0)), 0),
                ((("a", 0),), 1), ((("a", 0),), -1), ((("a", 0),), True), ((("a", 0),), False), ((("a", 0),), None),
                ((("a", 0),), "0"), ((("a", 0),), (0,)), ((("a", 0),), 10 ** 40), ((("a", 0),), EqualToAll()),
                ([("a", 0)], 0), (None, 0), ("a", 0), (LikeTuple(("a", 0)), 0), ((["a", 0],), 0), ((("a", True),), 0),
                ((("c", 0),), 0), ((("a", -1),), 0), ((("b", 0), ("a", 1)), 1), ((("a", 0, 0),), 0),
                ((("a", 0), None), 0),
                ((("b", 5),) * 200 + (("a", 0),), 200), (table, 0), ((("a", 10 ** 6 + 1),), 0), ((("b", 3), ("a", 2)),
                0)):
            self.refuse((gain, table, journey, number), "journey", kinds=("a", "a"))
        # What brings the kind as much must be a touch of the other one.
        journey, number = gain_journey(SMALL, "a", "a")
        self.refuse((WHOLE, gain_paper(SMALL, "a", "b")[1], journey, number), "journey")

    def test_a_greater_table_holds(self):
        gain, table, journey, number = self.paper
        out = (3, 1, (), ())
        nearer = (3, 0, (), ())
        for more in ({(nearer, nearer, 0, 0), (nearer, nearer, 0, 1), (out, out, 0, 0), (out, out, 0, 1)} | {
                (nearer, out, slack, 1) for slack in range(4)}, {(nearer, out, 3, 1)}, {(nearer, nearer, 0, 1)}):
            greater = tuple(sorted({*table, *more}))
            self.assertEqual(len(greater), len(table) + len(more - set(table)))
            self.assertGreater(len(greater), len(table))
            self.assertEqual(check_gain(SMALL, "a", "b", (gain, greater, journey, number)), gain)
        # With a track of PUT 0 all stand in it by which the touch is put in then.
        for slack in range(4):
            fewer = {(nearer, nearer, 0, 0), *table} | {(nearer, out, far, 1) for far in range(4) if far != slack}
            self.refuse((gain, tuple(sorted(fewer)), journey, number), "table")

    def test_slack_counts(self):
        gain, table, journey, number = self.paper
        never = (0, 0, ((0, 0), (1, 0)), ())
        more = (never, (3, 1, ((0, 0), (1, 0)), ()), 3, 1)
        # Behind so much slack no other touch is reached; behind less of it there is more to come.
        out = ((3, 1, ((0, 0), (1, 0)), ()),) * 2 + (0, 1)
        greater = tuple(sorted({*table, more, out}))
        self.assertEqual(check_gain(SMALL, "a", "b", (gain, greater, journey, number)), gain)
        self.assertIn(out, table)
        self.assertIn(more, table)
        for slack in (0, 1, 2):
            self.assertNotIn(more[:2] + (slack, 1), table)
            near = (never, (3, 1, (), ()), slack, 1)
            greater = tuple(sorted({*table, near}))
            self.refuse((gain, greater, journey, number), "table")

    def test_what_lies_behind_much_slack(self):
        rule = (("a", "b"), 2, None, (), "all", ("last", 2), ("ages", (1,), (1, 1)))
        gain, table, journey, number = gain_paper(rule, "a", "b")
        # No touch of a later CLASS stands ahead of one of an earlier one: this never comes.
        never = ((0, 0), (1, 1))
        out = (3, 1, never, ())
        for age in (0, 1, 2):
            for slack in (2 - age + 1, 3):
                more = {((age, 0, never, ()), out, slack, 1), (out, out, 0, 1)}
                self.assertFalse(more & set(table))
                greater = tuple(sorted({*table, *more}))
                self.assertEqual(check_gain(rule, "a", "b", (gain, greater, journey, number)), gain)
                fewer = tuple(sorted({*table, *more} - {(out, out, 0, 1)}))
                self.refuse((gain, fewer, journey, number), "table", rule)

    def test_a_table_without_one_of_its_tracks_does_not_hold(self):
        gain, table, journey, number = self.paper
        self.assertEqual(len(table), 153)
        for place in range(len(table)):
            self.refuse((gain, table[:place] + table[place + 1:], journey, number), "table")
        gain, table, journey, number = gain_paper(GAPS, "b", "b")
        for place in range(len(table)):
            self.refuse((gain, table[:place] + table[place + 1:], journey, number), "table", GAPS, ("b", "b"))

    def test_tables_with_one_thing_otherwise(self):
        gain, table, journey, number = self.paper
        first, last = table[0], table[-1]
        one, other, slack, put = last
        tables = [
            None, (), [], list(table), LikeTuple(*table), "", table[::-1], table + table[-1:], table[:1] + table,
            table[1:2] + table[:1] + table[2:], table + (None,), table + (EqualToAll(),), tuple(map(list, table)),
            (None,) + table, table[1:], (first[:3],) + table[1:], (first + (0,),) + table[1:],
            table[:-1] + (list(last),),
            table[:-1] + (LikeTuple(*last),), table[:-1] + ((list(one), other, slack, put),),
            table[:-1] + ((one, list(other), slack, put),), table[:-1] + ((one[:3], other, slack, put),),
            table[:-1] + ((one, other[:3], slack, put),),
        ]
        for value in (None, True, -1, 4, "0", 10 ** 40, EqualToAll()):
            tables += [table[:-1] + ((one, other, value, put),), ((value,) + first[1:],) + table[1:],
                       table[:-1] + (((value,) + one[1:], other, slack, put),)]
        for value in (None, True, -1, 2, "1", EqualToAll()):
            tables += [table[:-1] + ((one, other, slack, value),), table[:-1] + ((one, (3, value) + other[2:], slack,
                put),)]
        tables += [(first[:3] + (False,),) + table[1:], (first[:2] + (False, 0),) + table[1:]]
        for value in ([(0, 0)], ((0, 1),), ((2, 0),), ((0,),), ((0, 0, 0),), ([0, 0],), ((False, 0),), ((0, False),),
            None,
                      ((0, 0),) * 3, (EqualToAll(),)):
            tables += [table[:-1] + ((one[:2] + (value, ()), other, slack, put),),
                       table[:-1] + ((one, other[:2] + (value, ()), slack, put),),
                       table[:-1] + ((one, other[:2] + (other[2], value), slack, put),)]
        for told in tables:
            self.refuse((gain, told, journey, number), "table")
            self.refuse((gain, told, None, None), "table")

    def test_tracks_with_put_0(self):
        gain, table, journey, number = self.paper
        # Without a touch put in both STANDINGS are one, and there is no slack.
        never = (3, 0, (), ())
        out = (3, 1, (), ())
        closed = {(never, never, 0, 0), (out, out, 0, 0), (never, out, 0, 1), (out, out, 0, 1)} | {
            (standing, out, slack, 1) for standing in (never, out) for slack in range(4)}
        greater = tuple(sorted({*table, *closed}))
        self.assertEqual(check_gain(SMALL, "a", "b", (gain, greater, journey, number)), gain)
        for wrong in ((never, never, 1, 0), (out, out, 3, 0), (never, out, 0, 0), (out, never, 0, 0), (out, out, 0, 2),
                      (out, out, 0, -1)):
            self.refuse((gain, tuple(sorted({*greater, wrong})), journey, number), "table")

    def test_slack_is_at_most_the_reach(self):
        gain, table, journey, number = self.paper
        out = (3, 1, (), ())
        self.assertIn((out, out, 3, 1), table)
        self.refuse((gain, tuple(sorted({*table, (out, out, 4, 1)})), journey, number), "table")
        self.refuse((gain, tuple(sorted({*table, (out, out, -1, 1)})), journey, number), "table")

    def test_a_great_table(self):
        paper = gain_paper(MOST_TRACKS, "a", "b")
        self.assertEqual(check_gain(MOST_TRACKS, "a", "b", paper), paper[0])
        self.refuse((paper[0], paper[1][:-1]) + paper[2:], "table", MOST_TRACKS)


class Refusals(unittest.TestCase):
    def wrong(self):
        kinds = [None, 1, True, "", "no", "adx", b"ad", ("ad",), ["ad"], EqualToAll(), {}]
        return [("rule", value, (BadRule, "part", part)) for value, part in wrong_rules()] + [
            (name, value, (BadKind, "value", value)) for name in ("kind", "other") for value in kinds]

    def test_which_error_is_due(self):
        good = {"rule": rule_with(window=1, pick=("last", 1)), "kind": "ad", "other": "mail"}
        for call in CALLS:
            check_refusals(self, call, good, self.wrong())
        for least in (False, True):
            check_refusals(self, lambda **told: gain_journey(**told, least=least), good, self.wrong())
        check_refusals(self, check_gain, {**good, "paper": gain_paper(**good)}, self.wrong() + [
            ("paper", None, (BadPaper, "part", "form")), ("paper", (NONE, (), (), 0), (BadPaper, "part", "table")),
            ("paper", gain_paper(**good)[:3] + (1,), (BadPaper, "part", "journey"))])

    def test_too_great_is_behind_all_other_errors(self):
        good = {"rule": GREAT, "kind": "a", "other": "b"}
        for call in CALLS:
            check_refusal(self, call, good, (TooGreat, "most", 20000))
            check_refusal(self, call, {**good, "kind": "no"}, (BadKind, "value", "no"))
            check_refusal(self, call, {**good, "other": "no"}, (BadKind, "value", "no"))
        # Papers are checked however great they may be.
        check_refusal(self, check_gain, {**good, "paper": (NONE, (), (), 0)}, (BadPaper, "part", "table"))

    def test_at_most_20000_are_not_too_great(self):
        self.assertEqual(len(gain_paper(MOST_TRACKS, "a", "b")[1]), 19350)
        self.assertEqual(most_gain(MOST_TRACKS, "a", "a"), WHOLE)
        self.assertEqual(least_gain(MOST_TRACKS, "a", "b"), (-1, 2))
        self.assertEqual(len(gain_journey(MOST_TRACKS, "a", "b", least=True)[0]), 2)
        for call in CALLS:
            check_refusal(self, call, {"rule": MORE_TRACKS, "kind": "a", "other": "b"}, (TooGreat, "most", 20000))

    def test_names(self):
        good = {"rule": SMALL, "kind": "a", "other": "b"}
        for call in CALLS:
            check_names(self, call, good)
        check_names(self, check_gain, {**good, "paper": gain_paper(**good)})
        self.assertEqual(gain_journey(SMALL, "a", "b", least=True),
            gain_journey(least=True, other="b", kind="a", rule=SMALL))
        with self.assertRaises(TypeError):
            gain_journey(SMALL, "a", "b", True)
        self.assertEqual(good, {"rule": copy.deepcopy(SMALL), "kind": "a", "other": "b"})


if __name__ == "__main__":
    unittest.main()
