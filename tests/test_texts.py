"""touchshare.texts: texts of rules and journeys, what is read back, and what can not stand."""

import copy
import random
import unittest

from tests.reckoning import random_journey, random_rule
from tests.refusals import check_names, check_refusal, check_refusals
from tests.samples import EVEN, odd_things, rule_with, wrong_rules
from touchshare.errors import BadJourney, BadRule, BadText
from touchshare.texts import journey_text, read_journey, read_rule, rule_text

PLACES = rule_with(window=0, gap=24, weak=("direct",), once="last", pick=("first", 3),
                   shares=("places", ((100,), (0, 50), (10, 20, 30))))
AGES = rule_with(window=60, gap=0, weak=("ad", "direct", "mail"), once="first", pick=("last", 1),
                 shares=("ages", (1, 60), (9, 0, 5)))
EVEN_TEXT = "kinds ad direct mail\nwindow none\ngap none\nweak\nonce all\npick last 4\neven\n-"
PLACES_TEXT = "kinds ad direct mail\nwindow 0\ngap 24\nweak direct\nonce last\npick first 3\nplaces\n100 0 50 10 20 30"
AGES_TEXT = "kinds ad direct mail\nwindow 60\ngap 0\nweak ad direct mail\nonce first\npick last 1\nages\n2 1 60 9 0 5"
NO_STRINGS = [thing for thing in odd_things() if not isinstance(thing, str)] + [
    None, 0, 1, [EVEN_TEXT], (EVEN_TEXT,), EVEN_TEXT.encode(), EVEN]

# Of each row of a text such as can not stand in the place of it.
WRONG_INTEGERS = ["-1", "+1", "01", "00", "1.0", "1e1", "0x1", "1_0", "x", "None", "9" * 40, "9" * 5000, "0" * 5000,
    "--1",
                  "\u0661", "\u00b2", "True"]
WRONG_LIMITS = ["", " ", "  none", " none ", " 1 ", " 1 1", "  1", " NONE", " None", " none none", " -"] + [
    " " + word for word in WRONG_INTEGERS]
WRONG_ROWS = {
    1: ["", "kinds", "kinds ", "kind ad", "Kinds ad", " kinds ad", "kinds  ad", "kinds ad ", "kinds ad direct  mail",
        "kinds mail direct ad", "kinds ad ad", "kinds a b c d e", "kinds abcdefg", "kinds AD", "kinds a1", "kinds\tad",
        "kinds ad\tdirect", "ad direct mail", "kinds ad,mail", "kinds \u00e9", "weak ad direct mail"],
    2: ["window" + word for word in WRONG_LIMITS + [" 61", " 60000000"]] + ["windows 1", "none", "gap 1", " window 1"],
    3: ["gap" + word for word in WRONG_LIMITS + [" 25", " 60"]] + ["gaps 1", "none", "window 1", "gap\t1"],
    4: ["", "weak ", " weak", "weak  ad", "weak ad ", "weak none", "weak mail ad", "weak ad ad", "weak AD", "weak b",
        "weak ad  mail", "kinds ad", "-", "weak -", "weak ad direct mail mail"],
    5: ["", "once", "once ", "once any", "once ALL", "once  all", "once all ", " once all", "once all all", "all",
        "once none", "pick all"],
    6: ["", "pick", "pick last", "pick 4", "pick 4 last", "pick last 0", "pick last 5", "pick all 1", "pick  last 1",
        "pick last  1", "pick last 1 ", "pick last 1 1", "pick LAST 1", "once last 1"] + [
            "pick last " + word for word in WRONG_INTEGERS],
    7: ["", "-", "even ", " even", "even -", "EVEN", "odd", "places 1", "places ", "ages 0 1", "evens", "shares even",
        "none"],
}
EVEN_ROWS = ["", "- ", " -", "--", "0", "even", "100", "1 1", "none", "- -"]
# Each beside a PICK of two, and by ages.
PLACES_ROWS = ["", "-", "100", "100 50", "100 50 50 1", "100 50 51", "101 0 0", "0 101 0", "100  50 50", "100 50 50 ",
               " 100 50 50", "100 50 -50", "1 1 1 1 1 1", "100 50 x", "100,50,50", "none"] + [
                   "1 1 " + word for word in WRONG_INTEGERS] + [word + " 1 1" for word in WRONG_INTEGERS]
AGES_ROWS = ["", "-", "0", "1", "0 1 1", "1 1", "1 1 1", "1 1 1 1 1", "2 1 2 1 1", "1 0 1 1", "1 61 1 1", "1 1 10 1",
             "2 2 1 1 1 1", "2 1 1 1 1 1", "4 1 2 3 4 1 1 1 1 1", "3 1 2 3 1 1 1", "1  1 1 1", "1 1 1 1 ", " 1 1 1 1",
             "1 1 1 x", "9999999 1 1 1", "3 1", "2", "-1 1", "- 1 1"] + [
                 "1 1 1 " + word for word in WRONG_INTEGERS] + [word + " 1 1 1" for word in WRONG_INTEGERS]


def with_row(text, number, row):
    rows = text.split("\n")
    rows[number - 1] = row
    return "\n".join(rows)


class RuleTexts(unittest.TestCase):
    def refuse(self, text, line):
        check_refusal(self, read_rule, {"string": text}, (BadText, "line", line))

    def test_by_hand(self):
        for rule, text in ((EVEN, EVEN_TEXT), (PLACES, PLACES_TEXT), (AGES, AGES_TEXT)):
            self.assertEqual(check_names(self, rule_text, {"rule": rule}), text)
            self.assertEqual(check_names(self, read_rule, {"string": text}), rule)
        rule = (("z",), None, None, (), "all", ("last", 4), ("ages", (), (0,)))
        self.assertEqual(rule_text(rule),
                         "kinds z\nwindow none\ngap none\nweak\nonce all\npick last 4\nages\n0 0")
        rule = (("a", "b"), 7, 8, ("b",), "all", ("first", 1), ("places", ((0,),)))
        self.assertEqual(rule_text(rule), "kinds a b\nwindow 7\ngap 8\nweak b\nonce all\npick first 1\nplaces\n0")

    def test_what_is_told_is_read_back(self):
        chance = random.Random(11)
        for _ in range(400):
            rule = random_rule(chance)
            text = rule_text(rule)
            self.assertEqual(len(text.split("\n")), 8)
            self.assertEqual(read_rule(text), rule)
        self.assertEqual(read_rule(rule_text(EVEN)), EVEN)

    def test_no_rule_has_no_text(self):
        for value, part in wrong_rules():
            check_refusal(self, rule_text, {"rule": value}, (BadRule, "part", part))
        for value in odd_things():
            check_refusal(self, rule_text, {"rule": value}, (BadRule, "part", "form"))

    def test_what_is_no_string(self):
        for value in NO_STRINGS:
            self.refuse(value, 0)

    def test_each_wrong_row_is_told_by_its_number(self):
        for number, rows in WRONG_ROWS.items():
            for text in (EVEN_TEXT, PLACES_TEXT, AGES_TEXT):
                for row in rows:
                    self.refuse(with_row(text, number, row), number)

    def test_the_last_row(self):
        two = PLACES_TEXT.replace("first 3", "first 2")
        for text, rows in ((EVEN_TEXT, EVEN_ROWS), (two, PLACES_ROWS), (AGES_TEXT, AGES_ROWS)):
            for row in rows:
                self.refuse(with_row(text, 8, row), 8)
        self.assertEqual(read_rule(with_row(two, 8, "100 50 50"))[6], ("places", ((100,), (50, 50))))
        self.assertEqual(read_rule(with_row(AGES_TEXT, 8, "1 1 1 1"))[6], ("ages", (1,), (1, 1)))
        self.assertEqual(read_rule(with_row(AGES_TEXT, 8, "0 0"))[6], ("ages", (), (0,)))
        # The last row is told by "even", "places" or "ages" ahead of it.
        for text, row in ((EVEN_TEXT, "places"), (EVEN_TEXT, "ages"), (PLACES_TEXT, "even"), (PLACES_TEXT, "ages"),
                          (AGES_TEXT, "even"), (AGES_TEXT, "places")):
            self.refuse(with_row(text, 7, row), 8)

    def test_a_row_by_which_it_would_be_no_rule(self):
        # Each of these rows could stand elsewhere.
        self.refuse(EVEN_TEXT.replace("weak", "weak other"), 4)
        self.refuse(PLACES_TEXT.replace("first 3", "first 2"), 8)
        self.refuse(PLACES_TEXT.replace("first 3", "first 4"), 8)
        self.refuse(EVEN_TEXT.replace("kinds ad direct mail", "kinds ad mail direct"), 1)
        self.refuse(PLACES_TEXT.replace("kinds ad direct mail", "kinds ad mail"), 4)

    def test_the_first_wrong_row_tells(self):
        chance = random.Random(12)
        choices = {**WRONG_ROWS, 8: EVEN_ROWS[:-1]}
        for _ in range(300):
            numbers = sorted(chance.sample(sorted(choices), 2))
            text = EVEN_TEXT
            for number in numbers:
                text = with_row(text, number, chance.choice(choices[number]))
            self.refuse(text, numbers[0])
            self.refuse(text + "\nmore", numbers[0])

    def test_rows_that_lack(self):
        for text in (EVEN_TEXT, PLACES_TEXT, AGES_TEXT):
            rows = text.split("\n")
            for many in range(8):
                self.refuse("\n".join(rows[:many]), many + 1 if many else 1)
                self.refuse("\n".join(rows[:many] + [""]), many + 1)
        self.refuse("window none", 1)
        self.refuse("kinds a\nwindow 61", 2)
        self.refuse("kinds a\n\nwindow 60", 2)

    def test_a_ninth_row(self):
        for text in (EVEN_TEXT, PLACES_TEXT, AGES_TEXT):
            for more in ("\n", "\n-", "\nmore", "\n\n", "\n-\n-", "\n "):
                self.refuse(text + more, 9)
            self.refuse("\n" + text, 1)
        self.refuse(with_row(EVEN_TEXT, 8, "0") + "\n", 8)

    def test_great_texts(self):
        self.refuse("\n" * 20000, 1)
        self.refuse(EVEN_TEXT + "\n" * 19000, 9)
        self.refuse(with_row(AGES_TEXT, 8, "1 " * 9000 + "1"), 8)
        self.refuse(with_row(PLACES_TEXT, 8, "1 " * 9000 + "1"), 8)
        self.refuse("kinds " + "a" * 19000, 1)
        self.refuse("kinds" + " a" * 9000, 1)


class JourneyTexts(unittest.TestCase):
    def refuse(self, text, line):
        check_refusal(self, read_journey, {"rule": EVEN, "string": text}, (BadText, "line", line))

    def test_by_hand(self):
        for journey, text in (((), ""), ((("ad", 0),), "ad 0"), ((("mail", 10 ** 6), ("ad", 12)),
            "mail 1000000\nad 12"),
                              ((("ad", 7), ("direct", 7), ("ad", 7)), "ad 7\ndirect 7\nad 7")):
            self.assertEqual(check_names(self, journey_text, {"rule": EVEN, "journey": journey}), text)
            self.assertEqual(check_names(self, read_journey, {"rule": EVEN, "string": text}), journey)

    def test_what_is_told_is_read_back(self):
        chance = random.Random(13)
        for _ in range(200):
            rule = random_rule(chance)
            journey = random_journey(chance, rule[0])
            self.assertEqual(read_journey(rule, journey_text(rule, journey)), journey)

    def test_200_touches_and_one_more(self):
        journey = (("ad", 5),) * 200
        text = journey_text(EVEN, journey)
        self.assertEqual(read_journey(EVEN, text), journey)
        for more in ("ad 5", "ad 4", "ad 6", "", "x", "ad"):
            self.refuse(text + "\n" + more, 201)
        self.refuse(text + "\nad 5" * 50, 201)
        self.refuse("ad 6\nad 7\n" + text, 2)

    def test_rows_that_can_not_stand(self):
        wrong = ["", " ", "ad", "ad ", "ad  1", " ad 1", "ad 1 ", "ad 1 1", "1 ad", "1", "AD 1", "no 1", "a 1",
            "ad 1000001",
                 "ad\t1", "ad,1", "ad none", "ad 1 mail 1"] + ["ad " + word for word in WRONG_INTEGERS]
        for row in wrong:
            if row:
                self.refuse(row, 1)
            self.refuse(row + "\nad 1", 1)
            self.refuse("ad 9\n" + row, 2)
            self.refuse("ad 9\nmail 9\n" + row + "\nad 0\n" + row, 3)

    def test_ages_that_ascend(self):
        self.refuse("ad 1\nad 2", 2)
        self.refuse("ad 3\nad 2\nad 2\nmail 3", 4)
        self.refuse("ad 0\nad 1\nx", 2)
        self.assertEqual(read_journey(EVEN, "ad 2\nad 2"), (("ad", 2), ("ad", 2)))

    def test_newlines_at_the_ends(self):
        self.refuse("\n", 1)
        self.refuse("ad 1\n", 2)
        self.refuse("\nad 1", 1)
        self.refuse("ad 2\n\nad 1", 2)

    def test_what_is_no_string(self):
        for value in NO_STRINGS:
            self.refuse(value, 0)

    def test_which_error_is_due(self):
        rules = [("rule", value, (BadRule, "part", part)) for value, part in wrong_rules()]
        check_refusals(self, journey_text, {"rule": EVEN, "journey": ()}, rules + [
            ("journey", None, (BadJourney, "number", None)), ("journey", [], (BadJourney, "number", None)),
            ("journey", (("ad", 1), ("ad", 2)), (BadJourney, "number", 1)),
            ("journey", (("ad", True),), (BadJourney, "number", 0)),
            ("journey", (("ad", 1),) * 201, (BadJourney, "number", None))])
        check_refusals(self, read_journey, {"rule": EVEN, "string": ""}, rules + [
            ("string", None, (BadText, "line", 0)), ("string", "x", (BadText, "line", 1)),
            ("string", b"", (BadText, "line", 0)), ("string", (), (BadText, "line", 0))])

    def test_nothing_that_is_handed_in_is_changed(self):
        rule, journey = copy.deepcopy(PLACES), (("ad", 5), ("mail", 0))
        rule_text(rule), journey_text(rule, journey)
        self.assertEqual((rule, journey), (PLACES, (("ad", 5), ("mail", 0))))


if __name__ == "__main__":
    unittest.main()
