"""touchshare.rules: what is a RULE, what is a JOURNEY, and which error is due."""

import copy
import itertools
import unittest

from tests.samples import EVEN, EqualToAll, LikeInteger, LikeTuple, Seven, Unshowable, odd_things, rule_with
from touchshare.errors import BadJourney, BadRule
from touchshare.rules import need_journey, need_rule

PARTS = ("kinds", "window", "gap", "weak", "once", "pick", "shares")

# Of each part values that can stand in rule_with.
GOOD = {
    "kinds": [("a",), ("z",), ("abcdef",), ("a", "b"), ("a", "aa", "ab", "b"), ("ad", "direct", "mail")],
    "window": [None, 0, 1, 59, 60],
    "gap": [None, 0, 1, 23, 24],
    "weak": [(), ("ad",), ("mail",), ("ad", "mail"), ("ad", "direct", "mail")],
    "once": ["all", "first", "last"],
    "pick": [(end, many) for end in ("first", "last") for many in (1, 2, 3, 4)],
    "shares": [
        ("even",),
        ("places", ((0,), (0, 0), (0, 0, 0), (0, 0, 0, 0))),
        ("places", ((100,), (100, 0), (0, 100, 0), (25, 25, 25, 25))),
        ("places", ((99,), (50, 50), (1, 2, 3), (97, 1, 1, 1))),
        ("ages", (), (0,)), ("ages", (), (9,)), ("ages", (1,), (0, 9)), ("ages", (60,), (9, 0)),
        ("ages", (1, 60), (1, 2, 3)), ("ages", (1, 2, 3), (0, 0, 0, 0)), ("ages", (58, 59, 60), (9, 9, 9, 9)),
    ],
}

# Of each part values by which rule_with is refused, beside the odd things.
WRONG = {
    "kinds": [
        None, 1, "ad", ["ad"], (), ("",), ("abcdefg",), ("A",), ("aB",), ("a b",), ("a1",), ("a\n",), ("`",), ("{",),
        ("\u00e9",), ("\u0430",), ("a", "a"), ("b", "a"), ("a", "c", "b"), ("a", "b", "c", "d", "e"), (b"a",),
        ("a", 1), (1, "a"), (1, 2), ("a", None), (True,), ("a", ["b"]), (("a",),), ("a", EqualToAll()),
        (EqualToAll(), "b"), LikeTuple("a", "b"), {"a": 1}, {"a"},
    ],
    "window": [-1, 61, 10 ** 6, True, False, "1", "none", (), (1,), [1], LikeInteger(), EqualToAll()],
    "gap": [-1, 25, 60, True, False, "1", "none", (), (1,), [1], LikeInteger(), EqualToAll()],
    "weak": [
        None, "ad", "", ["ad"], [], ("none",), ("mail", "ad"), ("ad", "ad"), ("ad", "mail", "mail"), (b"ad",), (1,),
        (True,), (None,), (("ad",),), ("ad", EqualToAll()), (EqualToAll(),), ("AD",), {}, {"ad"}, LikeTuple("ad"),
        ("ad", 1), ("ad", ["direct"]),
    ],
    "once": [None, 0, 1, True, "", "ALL", "any", "all ", b"all", ("all",), ["all"], EqualToAll(), {"all"}],
    "pick": [
        None, "last", ("last",), ("last", 0), ("last", 5), ("last", -1), ("last", True), ("last", False),
        ("last", None), ("last", "1"), ("last", LikeInteger()), ("last", EqualToAll()), ("all", 1), ("", 1), (None, 1),
        (b"last", 1), (EqualToAll(), 1), (("last",), 1), ("last", 1, 1), (1, "last"), ["last", 1], LikeTuple("last", 1),
    ],
    "shares": [
        None, "even", (), ("even", ()), ("even", 1), ["even"], (b"even",), ("EVEN",), ("odd",), (EqualToAll(),), (1,),
        (True,), (("even",),), LikeTuple("even"),
        ("places",), ("places", ()), ("places", None), ("places", ((1,), (1, 1), (1, 1, 1))),
        ("places", ((1,), (1, 1), (1, 1, 1), (1, 1, 1, 1), (1, 1, 1, 1, 1))),
        ("places", ((1,), (1, 1), (1, 1, 1), (1, 1, 1))), ("places", ((1, 1), (1, 1), (1, 1, 1), (1, 1, 1, 1))),
        ("places", ((), (1,), (1, 1), (1, 1, 1))), ("places", ((101,), (1, 1), (1, 1, 1), (1, 1, 1, 1))),
        ("places", ((-1,), (1, 1), (1, 1, 1), (1, 1, 1, 1))), ("places", ((1,), (1, 1), (1, 1, 1), (25, 25, 25, 26))),
        ("places", ((1,), (100, 1), (1, 1, 1), (1, 1, 1, 1))), ("places", ((1,), (101, -1), (1, 1, 1), (1, 1, 1, 1))),
        ("places", ((True,), (1, 1), (1, 1, 1), (1, 1, 1, 1))), ("places", ((1,), (1, False), (1, 1, 1), (1, 1, 1, 1))),
        ("places", ((1,), (1, 1), (1, 1, "1"), (1, 1, 1, 1))), ("places", ((1,), (1, 1), [1, 1, 1], (1, 1, 1, 1))),
        ("places", [(1,), (1, 1), (1, 1, 1), (1, 1, 1, 1)]), ("places", (1, (1, 1), (1, 1, 1), (1, 1, 1, 1))),
        ("places", ((1,), (1, 1), (1, 1, 1), (1, 1, 1, LikeInteger()))),
        ("places", ((1,), (1, 1), (1, 1, 1), (1, 1, 1, EqualToAll()))),
        ("places", ((1,), (1, 1), (1, 1, 1), LikeTuple(1, 1, 1, 1))),
        ("places", ((1,), (1, 1), (1, 1, 1), (1, 1, 1, 1)), ()), ["places", ((1,), (1, 1), (1, 1, 1), (1, 1, 1, 1))],
        ("ages",), ("ages", ()), ("ages", (), ()), ("ages", (), (1, 1)), ("ages", (), (1,), ()), ("ages", None, (1,)),
        ("ages", (1,), (1,)), ("ages", (1,), (1, 1, 1)), ("ages", (0,), (1, 1)), ("ages", (61,), (1, 1)),
        ("ages", (-1,), (1, 1)), ("ages", (2, 1), (1, 1, 1)), ("ages", (1, 1), (1, 1, 1)),
        ("ages", (1, 3, 2), (1, 1, 1, 1)), ("ages", (1, 2, 3, 4), (1, 1, 1, 1, 1)), ("ages", (True,), (1, 1)),
        ("ages", ("1",), (1, 1)), ("ages", (1, "2"), (1, 1, 1)), ("ages", (None,), (1, 1)), ("ages", [1], (1, 1)),
        ("ages", (1,), [1, 1]), ("ages", (1,), (1, 10)), ("ages", (1,), (-1, 1)), ("ages", (1,), (1, True)),
        ("ages", (1,), (False, 1)), ("ages", (1,), (1, "1")), ("ages", (1,), (1, None)), ("ages", (1,), "11"),
        ("ages", (1,), LikeTuple(1, 1)), ("ages", LikeTuple(1), (1, 1)), ("ages", (LikeInteger(),), (1, 1)),
        ("ages", (EqualToAll(),), (1, 1)), ("ages", (1,), (1, EqualToAll())), ("ages", 1, 1), ["ages", (1,), (1, 1)],
    ],
}


def places_of(many):
    """SHARES by places beside a PICK of so many."""
    return ("places", tuple((1,) * (place + 1) for place in range(many)))


def refused_part(thing):
    """The part by which a thing is refused as a rule, or None if it is not."""
    try:
        need_rule(thing)
    except BadRule as error:
        return error.part
    return None


def refused_number(rule, thing):
    """A tuple of the number by which a thing is refused as a journey, or () if it is not."""
    try:
        need_journey(rule, thing)
    except BadJourney as error:
        return (error.number,)
    return ()


class GoodRules(unittest.TestCase):
    def test_each_part_as_told_is_taken(self):
        for name in PARTS:
            for value in GOOD[name]:
                rule = rule_with(**{name: value})
                with self.subTest(name, value=value):
                    self.assertIs(need_rule(rule), rule)

    def test_what_is_handed_in_is_given_back_by_position_and_by_name(self):
        before = copy.deepcopy(EVEN)
        self.assertIs(need_rule(EVEN), EVEN)
        self.assertIs(need_rule(thing=EVEN), EVEN)
        self.assertEqual(EVEN, before)

    def test_places_have_as_many_rows_as_pick_takes(self):
        for many in (1, 2, 3, 4):
            for other in (1, 2, 3, 4):
                rule = rule_with(pick=("first", many), shares=places_of(other))
                with self.subTest(many=many, other=other):
                    self.assertEqual(refused_part(rule), None if many == other else "shares")

    def test_all_parts_together_are_taken(self):
        choices = [GOOD[name][:4] if name != "kinds" else [EVEN[0]] for name in PARTS[:5]]
        for parts in itertools.product(*choices):
            for shares in GOOD["shares"]:
                rule = parts + (("last", 4), shares)
                self.assertIs(need_rule(rule), rule)


class WrongRules(unittest.TestCase):
    def test_what_is_no_tuple_of_seven_things_has_a_wrong_form(self):
        wrong = [None, 7, "seven77", list(EVEN), EVEN[:6], EVEN + (1,), (), LikeTuple(*EVEN), dict.fromkeys(EVEN[0])]
        for thing in wrong + odd_things():
            self.assertEqual(refused_part(thing), "form")

    def test_seven_of_whatever_kind_are_judged_part_by_part(self):
        self.assertEqual(refused_part((None,) * 7), "kinds")
        self.assertEqual(refused_part((Unshowable(),) * 7), "kinds")
        self.assertEqual(refused_part((EqualToAll(),) * 7), "kinds")

    def test_a_tuple_with_names_is_a_tuple(self):
        rule = Seven(*EVEN)
        self.assertIs(need_rule(rule), rule)

    def test_each_wrong_part_is_told(self):
        for name in PARTS:
            for value in WRONG[name]:
                with self.subTest(name):
                    self.assertEqual(refused_part(rule_with(**{name: value})), name)

    def test_odd_things_are_refused_as_each_part(self):
        for name in PARTS:
            for thing in odd_things():
                # An empty tuple is a WEAK, as told.
                if name != "weak" or not isinstance(thing, tuple) or thing:
                    with self.subTest(name):
                        self.assertEqual(refused_part(rule_with(**{name: thing})), name)

    def test_odd_things_are_refused_deep_inside(self):
        for thing in odd_things():
            deep = [
                ("kinds", ("ad", thing)), ("weak", ("ad", thing)), ("pick", ("last", thing)), ("pick", (thing, 1)),
                ("shares", (thing,)), ("shares", ("ages", (thing,), (1, 1))), ("shares", ("ages", (1,), (1, thing))),
                ("shares", ("places", ((1,), (1, 1), (1, 1, 1), thing))),
                ("shares", ("places", ((1,), (1, 1), (1, 1, thing), (1, 1, 1, 1)))),
                ("shares", ("places", thing)), ("shares", ("ages", (1,), thing)),
            ]
            for name, value in deep:
                # A second kind may be "no".
                if name != "kinds" or not isinstance(thing, str) or thing != "no":
                    with self.subTest(name):
                        self.assertEqual(refused_part(rule_with(**{name: value})), name)

    def test_the_first_wrong_part_is_told(self):
        for name, other in itertools.combinations(PARTS, 2):
            for value in WRONG[name]:
                with self.subTest(name, other=other):
                    self.assertEqual(refused_part(rule_with(**{name: value, other: WRONG[other][0]})), name)
        for count in range(len(PARTS)):
            wrong = {name: WRONG[name][0] for name in PARTS[count:]}
            self.assertEqual(refused_part(rule_with(**wrong)), PARTS[count])

    def test_weak_hangs_on_the_kinds_of_the_same_rule(self):
        self.assertEqual(refused_part(rule_with(kinds=("a", "b"), weak=("ad",))), "weak")
        self.assertIsNone(refused_part(rule_with(kinds=("a", "b"), weak=("b",))))

    def test_what_is_refused_is_not_changed(self):
        thing = [("a",), None, None, (), "all", ["last", 1], ("even",)]
        before = copy.deepcopy(thing)
        self.assertEqual(refused_part(thing), "form")
        self.assertEqual(refused_part(tuple(thing)), "pick")
        self.assertEqual(thing, before)

    def test_equal_calls_have_equal_results(self):
        for _ in range(2):
            self.assertEqual(refused_part(rule_with(gap=25)), "gap")
            self.assertEqual(need_rule(rule_with(gap=24)), rule_with(gap=24))


class Journeys(unittest.TestCase):
    def test_journeys_as_told_are_given_back(self):
        good = [
            (), (("ad", 0),), (("ad", 10 ** 6),), (("ad", 5), ("mail", 5), ("ad", 5)),
            (("mail", 10 ** 6), ("ad", 10 ** 6), ("direct", 1), ("ad", 0), ("ad", 0)),
            (("ad", 3),) * 200, tuple(("mail", 200 - at) for at in range(200)),
        ]
        for journey in good:
            before = copy.deepcopy(journey)
            self.assertIs(need_journey(EVEN, journey), journey)
            self.assertIs(need_journey(rule=EVEN, thing=journey), journey)
            self.assertEqual(journey, before)

    def test_what_is_no_tuple_of_at_most_200_things_has_no_number(self):
        wrong = [None, "", "ad", 0, [], [("ad", 0)], {}, (("ad", 3),) * 201, (None,) * 201, LikeTuple(("ad", 0))]
        for thing in wrong:
            self.assertEqual(refused_number(EVEN, thing), (None,))
        for thing in odd_things():
            expected = (0,) if isinstance(thing, tuple) and thing else () if isinstance(thing, tuple) else (None,)
            self.assertEqual(refused_number(EVEN, thing), expected)

    def test_the_first_thing_that_is_no_touch_is_told(self):
        wrong = [
            None, "ad", 5, ("ad",), ("ad", 1, 1), ["ad", 1], (1, "ad"), ("AD", 1), ("", 1), ("web", 1), (b"ad", 1),
            (None, 1), (True, 1), (("ad",), 1), (["ad"], 1), (EqualToAll(), 1), ("ad", None), ("ad", "1"),
            ("ad", True), ("ad", False), ("ad", -1), ("ad", (1,)), ("ad", [1]), ("ad", LikeInteger()),
            ("ad", EqualToAll()), LikeTuple("ad", 1), (("ad", 1),),
        ]
        for touch in wrong + odd_things() + [(thing, 1) for thing in odd_things()] + [("ad", t) for t in odd_things()]:
            for number in (0, 1, 3, 199):
                journey = (("ad", 9),) * number + (touch,) + (None,) * min(2, 199 - number)
                self.assertEqual(refused_number(EVEN, journey), (number,))

    def test_ages_above_the_greatest_are_refused(self):
        self.assertEqual(refused_number(EVEN, (("ad", 10 ** 6 + 1),)), (0,))
        self.assertEqual(refused_number(EVEN, (("ad", 10 ** 39),)), (0,))

    def test_an_age_greater_than_the_one_ahead_is_told(self):
        self.assertEqual(refused_number(EVEN, (("ad", 0), ("ad", 1))), (1,))
        self.assertEqual(refused_number(EVEN, (("ad", 5), ("ad", 5), ("mail", 4), ("ad", 5), ("ad", 9))), (3,))
        self.assertEqual(refused_number(EVEN, (("ad", 5), ("ad", 6), None)), (1,))
        self.assertEqual(refused_number(EVEN, (("ad", 5), None, ("ad", 6))), (1,))
        self.assertEqual(refused_number(EVEN, (("ad", 7),) * 199 + (("ad", 8),)), (199,))

    def test_the_kinds_are_those_of_the_rule(self):
        rule = rule_with(kinds=("shop",))
        self.assertEqual(refused_number(rule, (("shop", 1), ("ad", 1))), (1,))
        self.assertEqual(refused_number(EVEN, (("shop", 1),)), (0,))

    def test_a_rule_that_is_none_is_refused_first(self):
        for name in PARTS:
            for value in WRONG[name]:
                for journey in ((), None, (None,)):
                    with self.subTest(name), self.assertRaises(BadRule) as caught:
                        need_journey(rule_with(**{name: value}), journey)
                    self.assertEqual(caught.exception.part, name)
        for thing in odd_things() + [None]:
            with self.assertRaises(BadRule) as caught:
                need_journey(thing, None)
            self.assertEqual(caught.exception.part, "form")

    def test_what_is_refused_is_not_changed(self):
        touch = ["ad", 1]
        journey = [touch]
        self.assertEqual(refused_number(EVEN, journey), (None,))
        self.assertEqual(refused_number(EVEN, tuple(journey)), (0,))
        self.assertEqual((touch, journey), (["ad", 1], [["ad", 1]]))


if __name__ == "__main__":
    unittest.main()
