"""touchshare.wishes: each wish held and not held, beside a second reckoning, menus that quarrel, what is refused."""

import copy
import itertools
import random
import unittest

from tests.reckoning import (all_journeys, all_put_in, smallest_rules, told_kind_credits, told_reached, told_standings,
                             told_tracks, without)
from tests.refusals import check_names, check_refusal, check_refusals
from tests.samples import (EVEN, MORE_TRACKS, MOST_TRACKS, EqualToAll, LikeInteger, LikeTuple, odd_things, rule_with,
                           wrong_rules)
from touchshare.errors import BadMenu, BadNumber, BadRule, BadWishes, TooGreat
from touchshare.gains import most_gain
from touchshare.wishes import does_quarrel, least_window, quarrels, wishes_of

WISHES = ("fair", "firm", "modest", "open", "whole")
SUBSETS = [chosen for many in range(6) for chosen in itertools.combinations(WISHES, many)]
AB = ("a", "b")
LAST = (AB, None, None, (), "all", ("last", 1), ("even",))
FIRST = (AB, None, None, (), "all", ("first", 1), ("even",))
TWO = (AB, None, None, (), "all", ("last", 2), ("even",))
ZERO = (AB, 3, None, (), "all", ("last", 1), ("ages", (), (0,)))
ALONE = (("a",), 2, None, (), "all", ("last", 1), ("even",))
WEAK = (AB, None, None, ("b",), "all", ("first", 1), ("even",))
# A second touch of one kind takes from the first one; with two more there is less for it.
LESS = (AB, None, None, (), "all", ("first", 2), ("places", ((100,), (10, 20))))
# Of the KINDS of MOST_TRACKS, with few TRACKS.
LAST_ABC = (("a", "b", "c"), None, None, (), "all", ("last", 1), ("even",))
# Of the WINDOW 11 come 17,560 TRACKS, of 12 more than 20,000.
WIDE = (("a", "b", "c", "d"), 0, None, (), "all", ("last", 3), ("even",))
FAR = (("a", "b", "c", "d"), None, 24, (), "all", ("last", 4), ("even",))
# If "b" is put in, 19,918 TRACKS come; of the others more than 20,000.
UNLIKE = (("a", "b", "c"), 29, None, ("b",), "all", ("first", 2), ("even",))
NO_WISHES = [thing for thing in odd_things() if not isinstance(thing, tuple) or thing] + [
    None, "whole", ["whole"], [], ("Whole",), ("whole", "open"), ("fair", "fair"), ("open", "whole", "whole"), ("no",),
    ("fair", "no"), ("fair", None), (b"fair",), (True,), (("fair",),), ("",),
    ("fair", "firm", "open", "modest", "whole"),
    ("fair", "firm", "modest", "open", "whole", "whole"), {"whole"}, LikeTuple("whole"), (EqualToAll(),),
    ("fair", EqualToAll())]


def least_quarrels(had):
    """All sets of WISHES that no one has of what several ones have, and of which all less is had by some one."""
    quarrelling = [some for some in SUBSETS if not any(set(some) <= set(one) for one in had)]
    return tuple(sorted(some for some in quarrelling if not any(set(less) < set(some) for less in quarrelling)))


def told_wishes(rule):
    """The WISHES of a rule by the words of the document, by JOURNEYS to all that comes."""
    kinds = range(len(rule[0]))
    credits_told = {journey: told_kind_credits(rule, journey) for journey in told_standings(rule).values()}
    found = []
    if not any(does_shield(rule, kind, other, many) for kind in kinds for other in kinds if kind != other
               for many in range(6)):
        found.append("fair")
    pairs = [[(told_kind_credits(rule, without(journey, number))[kind], told_kind_credits(rule, journey)[kind])
              for journey, number in told_tracks(rule, rule[0][kind]).values() if number is not None] for kind in kinds]
    if all(more >= less for some in pairs for less, more in some):
        found.append("firm")
    if all(more <= less or less == 0 for some in pairs for less, more in some):
        found.append("modest")
    if all(any(parts[kind] > 0 for parts in credits_told.values()) for kind in kinds):
        found.append("open")
    if all(sum(parts) == 1 or not told_reached(rule, journey) for journey, parts in credits_told.items()):
        found.append("whole")
    return tuple(found)


def does_shield(rule, kind, other, many):
    told = told_standings(rule, ((rule[0][other], 0),) * many)
    return all(told_kind_credits(rule, journey)[kind] == 0 for journey in told.values())


class ByHand(unittest.TestCase):
    def test_wishes_of(self):
        for rule, held in (
                (LAST, ("firm", "modest", "open", "whole")), (FIRST, ("fair", "firm", "modest", "open", "whole")),
                (TWO, ("firm", "open", "whole")), (ZERO, ("firm", "modest")), (ALONE, WISHES),
                (WEAK, ("firm", "modest", "open", "whole")), (LESS, ("fair", "open")),
                (FIRST[:6] + (("places", ((50,),)),), ("fair", "firm", "modest", "open")),
                (ZERO[:1] + (None, 0) + ZERO[3:6] + (("ages", (1,), (0, 1)),), ("firm", "modest")),
                (ALONE[:6] + (("ages", (), (0,)),), ("fair", "firm", "modest"))):
            self.assertEqual(wishes_of(rule), held, rule)

    def test_each_wish_is_held_by_some_and_not_by_others(self):
        had = [wishes_of(rule) for rule in (LAST, FIRST, TWO, ZERO, ALONE, WEAK, LESS)]
        for word in WISHES:
            self.assertEqual({word in one for one in had}, {True, False})

    def test_does_quarrel(self):
        self.assertIs(does_quarrel((LAST,), ()), False)
        self.assertIs(does_quarrel((LAST,), ("fair",)), True)
        self.assertIs(does_quarrel((LAST, FIRST), ("fair",)), False)
        self.assertIs(does_quarrel((LAST, FIRST), WISHES), False)
        self.assertIs(does_quarrel((LAST, LESS), ("fair", "open")), False)
        # Each one is had, but not both by one rule.
        self.assertIs(does_quarrel((LAST, LESS), ("fair", "firm")), True)
        self.assertIs(does_quarrel((LESS, LAST), ("fair", "firm")), True)
        self.assertIs(does_quarrel((LESS, LAST), ("firm",)), False)

    def test_quarrels(self):
        self.assertEqual(quarrels((FIRST,)), ())
        self.assertEqual(quarrels((LAST, FIRST, LESS, ZERO)), ())
        self.assertEqual(quarrels((LAST,)), (("fair",),))
        self.assertEqual(quarrels((LESS,)), (("firm",), ("modest",), ("whole",)))
        self.assertEqual(quarrels((LAST, LESS)), (("fair", "firm"), ("fair", "modest"), ("fair", "whole")))
        self.assertEqual(quarrels((ZERO, LESS)), (
            ("fair", "firm"), ("fair", "modest"), ("firm", "open"), ("modest", "open"), ("whole",)))

    def test_quarrels_with_as_many_wishes_as_rules(self):
        # Each of these lacks one wish alone.
        lacking = {"fair": LAST, "firm": (AB, 3, 2, (), "first", ("first", 3), ("even",)),
                   "modest": (AB, 0, 0, (), "all", ("first", 3), ("even",)), "whole": FIRST[:6] + (("places", ((10,),)),)}
        for word, rule in lacking.items():
            self.assertEqual(wishes_of(rule), tuple(some for some in WISHES if some != word))
        for many in range(1, 5):
            for words in itertools.permutations(lacking, many):
                menu = tuple(lacking[word] for word in words)
                self.assertEqual(quarrels(menu), (tuple(sorted(words)),))
                self.assertIs(does_quarrel(menu, WISHES), True)
                self.assertIs(does_quarrel(menu, tuple(sorted(words[1:]))), False)

    def test_least_window(self):
        rule = (AB, None, 0, (), "all", ("first", 1), ("ages", (3, 5), (0, 1, 0)))
        self.assertEqual(wishes_of(rule), ("firm", "modest"))
        rule = (AB, None, None, (), "all", ("first", 1), ("ages", (3,), (0, 1)))
        self.assertEqual(wishes_of(rule), ("fair", "firm", "modest", "open"))
        for window, held in ((0, ("firm", "modest")), (2, ("firm", "modest")),
                             (3, ("fair", "firm", "modest", "open")), (12, ("fair", "firm", "modest", "open"))):
            self.assertEqual(wishes_of(rule[:1] + (window,) + rule[2:]), held)
        for own in (None, 0, 3, 60):
            again = rule[:1] + (own,) + rule[2:]
            for greatest in range(13):
                found = 3 if greatest >= 3 else None
                self.assertEqual(least_window(again, ("open",), greatest), found)
                self.assertEqual(least_window(again, ("fair", "firm", "modest", "open"), greatest), found)
                self.assertEqual(least_window(again, (), greatest), 0)
                self.assertEqual(least_window(again, ("firm", "modest"), greatest), 0)
                self.assertIsNone(least_window(again, ("whole",), greatest))
                self.assertIsNone(least_window(again, WISHES, greatest))


class BesideASecondReckoning(unittest.TestCase):
    def rules(self, seed, many):
        return smallest_rules(random.Random(seed), many)

    def test_wishes_of(self):
        found = []
        for rule in self.rules(71, 90):
            told = told_wishes(rule)
            self.assertEqual(wishes_of(rule), told, rule)
            found.append(told)
        for word in WISHES:
            self.assertGreater(len([told for told in found if word in told]), 4)
            self.assertGreater(len([told for told in found if word not in told]), 4)

    def test_all_journeys_of_small_rules(self):
        journeys = list(all_journeys("ab", 4, 2))
        for rule in self.rules(72, 15):
            held = wishes_of(rule)
            for number, kind in enumerate("ab"):
                for journey in journeys:
                    less = told_kind_credits(rule, journey)[number]
                    for more, _ in all_put_in(journey, kind, 5):
                        change = told_kind_credits(rule, more)[number] - less
                        self.assertFalse("firm" in held and change < 0)
                        self.assertFalse("modest" in held and less > 0 and change > 0)

    def test_menus(self):
        chance = random.Random(73)
        rules = self.rules(74, 30)
        sizes = set()
        for _ in range(40):
            menu = tuple(chance.choice(rules) for _ in range(chance.randint(1, 4)))
            had = [wishes_of(rule) for rule in menu]
            self.assertEqual(quarrels(menu), least_quarrels(had))
            sizes.update(len(wishes) for wishes in quarrels(menu))
            for wishes in SUBSETS:
                self.assertIs(does_quarrel(menu, wishes), not any(set(wishes) <= set(one) for one in had))
        self.assertLessEqual({1, 2}, sizes)

    def test_least_window(self):
        chance = random.Random(75)
        found = set()
        for rule in self.rules(76, 30):
            # What has AGES of more hours makes more windows tell apart.
            held = [wishes_of(rule[:1] + (window,) + rule[2:]) for window in range(6)]
            for wishes in chance.sample(SUBSETS, 12):
                for greatest in (0, 1, 3, 5):
                    told = [window for window in range(greatest + 1) if set(wishes) <= set(held[window])]
                    self.assertEqual(least_window(rule, wishes, greatest), min(told, default=None))
                    found.add(min(told, default=None))
        self.assertLessEqual({None, 0, 1}, found)


class Refusals(unittest.TestCase):
    def wishes(self):
        return [("wishes", value, (BadWishes, "value", value)) for value in NO_WISHES]

    def menus(self):
        return [("menu", None, (BadMenu, "number", None)), ("menu", [EVEN], (BadMenu, "number", None)),
                ("menu", (), (BadMenu, "number", None)), ("menu", (EVEN,) * 5, (BadMenu, "number", None)),
                ("menu", (EVEN, rule_with(gap=25)), (BadMenu, "number", 1)),
                ("menu", (LAST, EVEN), (BadMenu, "number", 1)),
                ("menu", (MORE_TRACKS, None), (BadMenu, "number", 1))]

    def test_which_error_is_due(self):
        rules = [("rule", value, (BadRule, "part", part)) for value, part in wrong_rules()]
        check_refusals(self, wishes_of, {"rule": LAST}, rules)
        check_refusals(self, does_quarrel, {"menu": (LAST,), "wishes": ()}, self.menus() + self.wishes())
        check_refusals(self, quarrels, {"menu": (LAST,)}, self.menus())
        numbers = [("greatest", value, (BadNumber, "value", value)) for value in (
            None, True, False, -1, 13, 10 ** 39, "3", (3,), [3], LikeInteger(), EqualToAll())]
        check_refusals(self, least_window, {"rule": LAST, "wishes": (), "greatest": 3}, rules + self.wishes() + numbers)

    def test_too_great_whatever_the_wishes_are(self):
        too_great = (TooGreat, "most", 20000)
        check_refusal(self, wishes_of, {"rule": MORE_TRACKS}, too_great)
        for menu in ((MORE_TRACKS,), (LAST_ABC, MORE_TRACKS), (MORE_TRACKS, LAST_ABC)):
            check_refusal(self, quarrels, {"menu": menu}, too_great)
            for wishes in ((), ("whole",), WISHES):
                check_refusal(self, does_quarrel, {"menu": menu, "wishes": wishes}, too_great)
            for wrong in (["whole"], ("whole", "open"), "whole"):
                check_refusal(self, does_quarrel, {"menu": menu, "wishes": wrong}, (BadWishes, "value", wrong))

    def test_at_most_20000_are_not_too_great(self):
        self.assertEqual(wishes_of(MOST_TRACKS), ("firm", "open", "whole"))
        self.assertIs(does_quarrel((LAST_ABC, MOST_TRACKS), ("fair",)), True)

    def test_too_great_for_one_kind_that_is_put_in(self):
        self.assertEqual([self.is_too_great(UNLIKE, kind) for kind in UNLIKE[0]], [True, False, True])
        check_refusal(self, wishes_of, {"rule": UNLIKE}, (TooGreat, "most", 20000))
        check_refusal(self, does_quarrel, {"menu": (UNLIKE,), "wishes": ()}, (TooGreat, "most", 20000))

    def is_too_great(self, rule, kind):
        try:
            most_gain(rule, rule[0][0], kind)
        except TooGreat:
            return True
        return False

    def test_too_great_windows(self):
        # By its own WINDOW a RULE may be too great or not: those that are tried tell.
        for own in (0, None, 60):
            wide = WIDE[:1] + (own,) + WIDE[2:]
            self.assertEqual(least_window(wide, ("open",), 12), 0)
            self.assertEqual(least_window(wide, (), 12), 0)
            self.assertIsNone(least_window(wide, ("fair",), 2))
            check_refusal(self, least_window, {"rule": wide, "wishes": ("fair",), "greatest": 12},
                (TooGreat, "most", 20000))
        self.assertIsNone(least_window(WIDE, ("fair",), 11))
        # With a great GAP the least WINDOW is too great already, whatever the wishes are.
        for wishes in ((), ("open",), WISHES):
            for greatest in (0, 12):
                check_refusal(self, least_window, {"rule": FAR, "wishes": wishes, "greatest": greatest},
                              (TooGreat, "most", 20000))
        check_refusal(self, least_window, {"rule": WIDE, "wishes": ("fair",), "greatest": 13}, (BadNumber, "value", 13))

    def test_names(self):
        check_names(self, wishes_of, {"rule": LAST})
        check_names(self, does_quarrel, {"menu": (LAST, LESS), "wishes": ("fair", "firm")})
        check_names(self, quarrels, {"menu": (LAST, LESS)})
        check_names(self, least_window, {"rule": LAST, "wishes": ("open",), "greatest": 2})
        rule = copy.deepcopy(TWO)
        wishes_of(rule), least_window(rule, (), 3)
        self.assertEqual(rule, TWO)


if __name__ == "__main__":
    unittest.main()
