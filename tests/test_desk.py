"""touchshare.desk: each line and its answer, lines that are none, what is refused."""

import random
import unittest

from tests.reckoning import random_rule
from tests.refusals import check_refusal
from tests.samples import EVEN, TOO_GREAT, odd_things, rule_with
from touchshare.books import Book
from touchshare.desk import Desk
from touchshare.errors import BadText, ShareError, TooGreat
from touchshare.texts import read_rule, rule_text
from touchshare.wholes import givings_of, is_whole

RULE = (("ad", "direct", "mail"), 48, None, ("direct",), "last", ("last", 2), ("even",))
NO_STRINGS = [thing for thing in odd_things() if not isinstance(thing, str)] + [None, 1, ["hours 1"], ("undo",),
    b"undo"]

# Each line and its answer, in turn, at a desk of RULE.
TALK = [
    ("posted", "0"), ("undo", "nothing"), ("undo", "nothing"), ("sum ad", "0/1"), ("whole", "yes"), ("credits 0", "no"),
    ("journey 0", "no"), ("back 0", "no"), ("hours 20", "20"), ("hours 10000", "10020"), ("undo", "done"),
    ("touch phone ad 5", "done"), ("touch phone ad 21", "no"), ("sell phone", "0"),
    ("credits 0", "ad 1/1 direct 0/1 mail 0/1"),
    ("posted", "1"), ("touch home mail 18", "done"), ("posted", "1"), ("join phone home", "done"), ("posted", "2"),
    ("credits 0", "ad 1/2 direct 0/1 mail 1/2"), ("journey 0", "ad 15 mail 2"), ("sum ad", "1/2"),
    ("sum direct", "0/1"),
    ("sell other", "1"), ("journey 1", "none"), ("credits 1", "ad 0/1 direct 0/1 mail 0/1"), ("posted", "2"),
    ("touch other direct 0", "done"), ("journey 1", "direct 20"), ("sum direct", "1/1"), ("hours 1", "21"),
    ("sell home", "2"), ("sum mail", "1/1"), ("sum ad", "1/1"), ("back 2", "done"), ("back 2", "no"),
    ("sum mail", "1/2"),
    ("journey 2", "ad 16 mail 3"), ("credits 2", "ad 0/1 direct 0/1 mail 0/1"), ("undo", "done"), ("sum mail", "1/1"),
    ("back 3", "no"), ("parts mail", "0/1 1/2 1/1"), ("parts direct", "0/1 1/1"), ("parts no", "no"), ("sum no", "no"),
    ("join phone phone", "done"), ("join home phone", "done"),
]

# Lines that are none, whatever the book.
NO_LINES = [
    "", " ", "\n", "hours", "hours ", "hours  1", " hours 1", "hours 1 ", "hours 1 1", "HOURS 1", "Hours 1", "hour 1",
    "1",
    "hours 0", "hours 01", "hours 001", "hours -1", "hours +1", "hours 1.0", "hours x", "hours none", "hours 10001",
    "hours 1000000", "hours 9999999", "hours 12345678", "hours 00000001", "hours 0000001", "hours 1_0", "hours 1e1",
    "hours " + "9" * 40, "hours " + "9" * 6000, "hours \u0661", "hours\t1", "hours 1\n", "hours 1\nhours 1",
    "touch", "touch phone", "touch phone ad", "touch phone ad 0 0", "touch  ad 0", "touch phone  0", "touch phone ad ",
    "touch phone ad 00", "touch phone ad -0", "touch phone ad x", "touch phone no 0", "touch PHONE ad 0",
    "touch phone AD 0",
    "touch toolong ad 0", "touch a1 ad 0", "touch phone ad 9999999", "touch phone ad 99999999", "touch ad phone 0",
    "touch phone ad 0 ", " touch phone ad 0", "touch phone  ad 0",
    "sell", "sell ", "sell  phone", "sell phone ", "sell phone phone", "sell Phone", "sell toolong", "sell 1",
    "Sell phone",
    "join", "join phone", "join phone ", "join  phone", "join phone home other", "join phone Home", "join toolong a",
    "join a toolong", "join a  b",
    "back", "back ", "back x", "back 00", "back -1", "back 7", "back 9999999", "back 10000000", "back 0 0", "back  0",
    "credits", "credits ", "credits 7", "credits 00", "credits x", "credits 0 0", "credits -1", "credit 0",
    "credits  0",
    "sum", "sum ", "sum x", "sum AD", "sum ad mail", "sum  ad", "sums ad", "sum ad ",
    "journey", "journey ", "journey 7", "journey 00", "journey x", "journey 0 0", "journeys 0", "journey -1",
    "posted 0", "posted ", " posted", "Posted", "post", "posted posted", "undo 1", "undo ", " undo", "Undo", "undone",
    "whole ad", "whole ", " whole", "Whole", "parts", "parts ", "parts x", "parts AD", "parts ad mail", "parts  ad",
    "part ad",
    "no", "done", "nothing", "copy", "trial", "len", "rule", "hour", "sales", "unite a b", "take_back 0", "total ad",
    "under", "book", "say undo", "'undo'", "undo;undo", "touch,phone,ad,0", "None", "0",
]


class Answers(unittest.TestCase):
    def test_talk(self):
        desk = Desk(rule_text(RULE))
        for line, answer in TALK:
            with self.subTest(line):
                self.assertEqual(desk.say(line), answer)
        self.assertEqual(Desk(text=rule_text(RULE)).say(line="whole"), "yes")

    def test_great_numbers(self):
        desk = Desk(rule_text(EVEN))
        for number in range(1, 101):
            self.assertEqual(desk.say("hours 10000"), str(10000 * number))
        self.assertEqual(desk.say("hours 1"), "no")
        self.assertEqual(desk.say("touch a ad 1000000"), "done")
        self.assertEqual(desk.say("touch a ad 1000001"), "no")
        self.assertEqual(desk.say("touch a mail 0"), "done")
        self.assertEqual(desk.say("sell a"), "0")
        self.assertEqual(desk.say("journey 0"), "mail 1000000 ad 0")

    def test_whole_and_parts(self):
        chance = random.Random(21)
        for _ in range(40):
            rule = random_rule(chance)
            desk = Desk(rule_text(rule))
            try:
                whole = "yes" if is_whole(rule) else "not"
                parts = " ".join(f"{part}/{of}" for part, of in givings_of(rule, rule[0][-1]))
            except TooGreat:
                whole = parts = "no"
            self.assertEqual(desk.say("whole"), whole)
            self.assertEqual(desk.say("parts " + rule[0][-1]), parts)
        self.assertEqual(Desk(rule_text(rule_with(shares=("ages", (), (0,))))).say("whole"), "not")
        self.assertEqual(Desk(rule_text(rule_with(shares=("ages", (), (0,))))).say("parts ad"), "0/1")

    def test_too_great(self):
        desk = Desk(rule_text(TOO_GREAT))
        with self.assertRaises(TooGreat):
            is_whole(TOO_GREAT)
        for line in ("whole", "parts a", "parts d", "parts no"):
            self.assertEqual(desk.say(line), "no")
        self.assertEqual(desk.say("hours 3"), "3")

    def test_limits_of_the_book(self):
        desk = Desk(rule_text(EVEN))
        for number in range(40):
            self.assertEqual(desk.say("sell a"), str(number))
        self.assertEqual(desk.say("sell a"), "no")
        self.assertEqual(desk.say("back 39"), "done")
        self.assertEqual(desk.say("sell a"), "no")
        for _ in range(200):
            self.assertEqual(desk.say("touch b ad 0"), "done")
        self.assertEqual(desk.say("touch b ad 0"), "no")
        self.assertEqual(len(desk.book), 241)

    def test_what_is_no_line_changes_nothing(self):
        desk = Desk(rule_text(RULE))
        for line, _ in TALK:
            desk.say(line)
        before = desk.book.copy()
        for line in NO_LINES:
            with self.subTest(line[:40]):
                self.assertEqual(desk.say(line), "no")
                self.assertTrue(desk.book == before)
                self.assertEqual(desk.book.postings, before.postings)
        # At a new desk there are fewer things that can be named.
        for line in NO_LINES:
            self.assertEqual(Desk(rule_text(RULE)).say(line), "no")

    def test_what_is_no_string(self):
        desk = Desk(rule_text(RULE))
        desk.say("hours 3")
        for value in NO_STRINGS:
            check_refusal(self, desk.say, {"line": value}, (BadText, "line", 0))
        self.assertEqual(len(desk.book), 1)


class Books(unittest.TestCase):
    def test_the_very_book(self):
        desk = Desk(rule_text(RULE))
        book = desk.book
        self.assertIs(type(book), Book)
        self.assertIs(desk.book, book)
        self.assertEqual(book.rule, RULE)
        self.assertTrue(book == Book(RULE))
        book(20)
        book.touch("phone", "ad", 5)
        self.assertEqual(desk.say("sell phone"), "0")
        self.assertEqual(book.sales, 1)
        self.assertEqual(desk.say("credits 0"), "ad 1/1 direct 0/1 mail 0/1")
        book.take_back(0)
        self.assertEqual(desk.say("sum ad"), "0/1")
        self.assertEqual(desk.say("undo"), "done")
        self.assertEqual(desk.say("sum ad"), "1/1")
        self.assertEqual(len(book), 3)
        book.back(many=3)
        self.assertEqual(desk.say("undo"), "nothing")
        with self.assertRaises(AttributeError):
            desk.book = Book(RULE)

    def test_two_desks_go_on_by_themselves(self):
        one, other = Desk(rule_text(RULE)), Desk(rule_text(RULE))
        one.say("hours 7")
        self.assertEqual((one.book.hour, other.book.hour), (7, 0))

    def test_lines_beside_deeds(self):
        chance = random.Random(22)
        for _ in range(30):
            rule = random_rule(chance)
            desk, book = Desk(rule_text(rule)), Book(rule)
            for _ in range(40):
                line, deed = self.line_and_deed(chance, rule)
                try:
                    answer = deed(book)
                except (ShareError, LookupError):
                    answer = "no"
                self.assertEqual(desk.say(line), answer)
                self.assertTrue(desk.book == book)
                self.assertEqual(desk.say("posted"), str(len(book.postings)))

    def line_and_deed(self, chance, rule):
        device, other = chance.choice("abc"), chance.choice("abcA")
        kind, number = chance.choice([*rule[0], "none"]), chance.randint(0, 12)

        def done(deed):
            return lambda book: (deed(book), "done")[1]

        return chance.choice([
            (f"hours {number}", lambda book: str(book(number))),
            (f"touch {device} {kind} {number}", done(lambda book: book.touch(device, kind, number))),
            (f"touch {device} {kind} {number}", done(lambda book: book.touch(device, kind, number))),
            (f"join {device} {other}", done(lambda book: book.unite(device, other))),
            (f"back {number}", done(lambda book: book.take_back(number))),
            (f"sell {device}", lambda book: str(book.sell(device))),
            (f"sum {kind}", lambda book: "{}/{}".format(*book.total(kind))),
            (f"credits {number}", lambda book: " ".join(
                f"{name} {part}/{of}" for name, (part, of) in zip(rule[0], book.sale_credits(number)))),
            (f"journey {number}", lambda book: " ".join(
                f"{name} {age}" for name, age in book.journey(number)) or "none"),
            ("undo", lambda book: (book.back(), "done")[1] if len(book) else "nothing"),
        ])


class Texts(unittest.TestCase):
    def test_errors_as_read_rule(self):
        text = rule_text(RULE)
        for value in NO_STRINGS:
            check_refusal(self, Desk, {"text": value}, (BadText, "line", 0))
        rows = text.split("\n")
        for number in range(1, 9):
            check_refusal(self, Desk, {"text": "\n".join(rows[:number - 1])}, (BadText, "line", number))
            wrong = "\n".join(rows[:number - 1] + ["x"] + rows[number:])
            check_refusal(self, Desk, {"text": wrong}, (BadText, "line", number))
        check_refusal(self, Desk, {"text": text + "\n"}, (BadText, "line", 9))
        check_refusal(self, Desk, {"text": ""}, (BadText, "line", 1))
        self.assertEqual(Desk(text).book.rule, read_rule(text))


if __name__ == "__main__":
    unittest.main()
