"""touchshare.books: by hand, beside a second reckoning that does all deeds anew, and what is refused."""

import copy
import random
import unittest
from fractions import Fraction

from tests.reckoning import as_pair, random_rule, told_kind_credits
from tests.refusals import check_refusal, check_refusals
from tests.samples import EVEN, EqualToAll, LikeInteger, Unshowable, odd_things, rule_with, wrong_rules
from touchshare.books import Book, under
from touchshare.errors import BadDeed, BadKind, BadNumber, BadRule, Nothing
from touchshare.rules import need_journey
from touchshare.sharing import kind_credits

NONE = (0, 1)
WHOLE = (1, 1)
HALF = (1, 2)

# No words, of every kind.
NO_WORDS = [thing for thing in odd_things() if not isinstance(thing, str) or thing != "no"] + [
    None, 1, "A", "aB", "a1", "a ", " a", "abcdefg", "a-b", ("a",), ["a"], b"a", "\u00e9"]


class Told:
    """A second reckoning: all deeds are done anew, one by one, by the words of the document."""

    def __init__(self, rule, deeds):
        self.rule, self.hour, self.touches, self.sales, self.joins, self.gone = rule, 0, [], [], [], set()
        self.postings = []
        self.devices = set()
        self.credits = []
        for deed in deeds:
            self.do(*deed)
            now = [self.credit(number) for number in range(len(self.sales))]
            before = self.credits + [(Fraction(0),) * len(rule[0])] * (len(now) - len(self.credits))
            for number, (old, new) in enumerate(zip(before, now)):
                if old != new:
                    self.postings.append((number, tuple(as_pair(b - a) for a, b in zip(old, new))))
            self.credits = now

    def do(self, word, *told):
        if word == "hours":
            self.hour += told[0]
        elif word == "touch":
            self.touches.append(told)
            self.devices.add(told[0])
        elif word == "sell":
            self.sales.append((told[0], self.hour))
            self.devices.add(told[0])
        elif word == "take_back":
            self.gone.add(told[0])
        else:
            self.joins.append(set(told))
            self.devices.update(told)

    def joined(self, device):
        found = {device}
        for _ in self.joins:
            for pair in self.joins:
                if pair & found:
                    found |= pair
        return found

    def journey(self, number):
        device, made = self.sales[number]
        known = [touch for touch in self.touches if touch[0] in self.joined(device) and touch[2] <= made]
        order = sorted(range(len(known)), key=lambda place: (known[place][2], place))
        return tuple((known[place][1], made - known[place][2]) for place in order)

    def credit(self, number):
        if number in self.gone:
            return (Fraction(0),) * len(self.rule[0])
        return told_kind_credits(self.rule, self.journey(number))


def do(book, deed):
    word, *told = deed
    return book(*told) if word == "hours" else getattr(book, word)(*told)


def random_deed(chance, book, devices):
    word = chance.choice(["hours", "touch", "touch", "touch", "sell", "take_back", "unite"])
    if word == "hours":
        return (word, chance.choice([1, 1, 2, 5, 20]))
    if word == "touch":
        return (word, chance.choice(devices), chance.choice(book.rule[0]),
                chance.choice([book.hour, chance.randint(0, book.hour)]))
    if word == "sell":
        return (word, chance.choice(devices))
    if word == "unite":
        return (word, chance.choice(devices), chance.choice(devices))
    return (word, chance.randrange(book.sales)) if book.sales else ("hours", 3)


def state(book):
    """All that can be asked of a book."""
    sales = range(book.sales)
    return (book.rule, book.hour, book.postings, book.sales, len(book), [book.journey(number) for number in sales],
            [book.sale_credits(number) for number in sales], [book.total(kind) for kind in book.rule[0]],
            [device in book for device in ("a", "b", "c", "d", "e", "x", "y", "z")])


def filled(rule=EVEN):
    """A book with deeds of each kind, behind which x and y are one, sale 1 is taken back, and the hour is 12."""
    book = Book(rule)
    book(10)
    book.touch("x", "ad", 4)
    book.sell("x")
    book.touch("y", "mail", 7)
    book(2)
    book.sell("z")
    book.unite("y", "x")
    book.touch("z", "direct", 11)
    book.take_back(1)
    return book


class BesideASecondReckoning(unittest.TestCase):
    def check(self, book, told):
        sales = range(len(told.sales))
        self.assertEqual((book.hour, book.sales, book.postings), (told.hour, len(sales), tuple(told.postings)))
        self.assertEqual([book.journey(number) for number in sales], [told.journey(number) for number in sales])
        self.assertEqual([book.sale_credits(number) for number in sales],
                         [tuple(map(as_pair, parts)) for parts in told.credits])
        for place, kind in enumerate(told.rule[0]):
            self.assertEqual(book.total(kind), as_pair(sum((parts[place] for parts in told.credits), Fraction(0))))
        for device in "abcdexyz":
            self.assertEqual(device in book, device in told.devices)

    def test_many_books(self):
        chance = random.Random(20261119)
        for turn in range(150):
            rule = random_rule(chance)
            book, deeds = Book(rule), []
            devices = "abcde"[:chance.randint(1, 5)]
            for _ in range(chance.choice([8, 25])):
                deed = random_deed(chance, book, devices)
                try:
                    answer = do(book, deed)
                except BadDeed as caught:
                    self.assertEqual((caught.value, deed[0]), ("back", "take_back"))
                    continue
                deeds.append(deed)
                told = Told(rule, deeds)
                self.assertEqual(answer, {"hours": told.hour, "sell": len(told.sales) - 1}.get(deed[0]))
                self.assertEqual(len(book), len(deeds))
                if turn % 5 == 0 or len(deeds) % 8 == 0:
                    self.check(book, told)
                if chance.random() < 0.15:
                    many = chance.randint(1, len(deeds))
                    self.assertIsNone(book.back(many=many))
                    del deeds[-many:]
                    self.check(book, Told(rule, deeds))
            self.check(book, Told(rule, deeds))

    def test_the_sum_of_postings_is_the_credits(self):
        chance = random.Random(2)
        for _ in range(60):
            book = Book(random_rule(chance))
            for _ in range(40):
                deed = random_deed(chance, book, "abc")
                if deed[0] != "take_back" or book.sale_credits(deed[1]) != (NONE,) * len(book.rule[0]):
                    do(book, deed)
            for number in range(book.sales):
                sums = [sum((Fraction(*changes[place]) for sale, changes in book.postings if sale == number),
                            Fraction(0)) for place in range(len(book.rule[0]))]
                self.assertEqual(tuple(map(as_pair, sums)), book.sale_credits(number))

    def test_journeys_are_journeys_and_credits_are_theirs(self):
        book = filled(rule_with(window=6))
        for number in range(book.sales):
            self.assertEqual(need_journey(book.rule, book.journey(number)), book.journey(number))
        self.assertEqual(book.sale_credits(0), kind_credits(book.rule, book.journey(0)))


class Deeds(unittest.TestCase):
    def test_a_new_book(self):
        book = Book(EVEN)
        self.assertEqual((book.rule, book.hour, book.postings, book.sales, len(book)), (EVEN, 0, (), 0, 0))
        self.assertEqual(book.total("ad"), NONE)
        self.assertFalse("x" in book)

    def test_hours(self):
        book = Book(EVEN)
        self.assertEqual(book(1), 1)
        self.assertEqual(book(10 ** 4), 10001)
        self.assertEqual(book(hours=7), 10008)
        self.assertEqual((book.hour, len(book), book.postings), (10008, 3, ()))

    def test_the_last_hour(self):
        book = Book(EVEN)
        for _ in range(99):
            book(10 ** 4)
        self.assertEqual(book(10 ** 4 - 1), 10 ** 6 - 1)
        for hours in (2, 10 ** 4):
            check_refusal(self, book, {"hours": hours}, (BadDeed, "value", "hours"))
        self.assertEqual((book(1), len(book)), (10 ** 6, 101))
        for hours in (1, 2, 10 ** 4):
            check_refusal(self, book, {"hours": hours}, (BadDeed, "value", "hours"))
        check_refusal(self, book, {"hours": 10 ** 4 + 1}, (BadNumber, "value", 10 ** 4 + 1))
        book.touch("x", "ad", 0)
        book.touch("x", "ad", 10 ** 6)
        self.assertEqual(book.journey(book.sell("x")), (("ad", 10 ** 6), ("ad", 0)))
        self.assertEqual((book.hour, len(book)), (10 ** 6, 104))

    def test_touches_known_late(self):
        book = Book(rule_with(pick=("last", 1)))
        book(10)
        self.assertIsNone(book.touch("x", "ad", 3))
        self.assertEqual(book.sell("x"), 0)
        self.assertEqual(book.postings, ((0, (WHOLE, NONE, NONE)),))
        # One that is earlier changes nothing, a later one does.
        book.touch("x", "mail", 2)
        self.assertEqual(book.postings[1:], ())
        book.touch("x", "mail", 4)
        self.assertEqual(book.postings[1:], ((0, ((-1, 1), NONE, WHOLE)),))
        self.assertEqual(book.journey(0), (("mail", 8), ("ad", 7), ("mail", 6)))
        book(1)
        book.touch("x", "direct", 11)
        self.assertEqual(book.journey(0), (("mail", 8), ("ad", 7), ("mail", 6)))
        book.touch("x", "direct", 10)
        self.assertEqual(book.journey(0), (("mail", 8), ("ad", 7), ("mail", 6), ("direct", 0)))
        self.assertEqual(book.sale_credits(0), (NONE, WHOLE, NONE))
        self.assertEqual(len(book), 8)

    def test_at_the_same_hour_in_the_order_in_which_they_became_known(self):
        book = Book(EVEN)
        book(5)
        for device, kind, hour in (("x", "mail", 3), ("y", "direct", 3), ("x", "ad", 3), ("x", "ad", 1),
                                   ("y", "mail", 3), ("x", "direct", 1)):
            book.touch(device, kind, hour)
        book.sell("x")
        self.assertEqual(book.journey(0), (("ad", 4), ("direct", 4), ("mail", 2), ("ad", 2)))
        book.unite("x", "y")
        self.assertEqual(book.journey(0), (("ad", 4), ("direct", 4), ("mail", 2), ("direct", 2), ("ad", 2), ("mail", 2)))

    def test_touches_behind_a_sale_at_the_same_hour(self):
        book = Book(EVEN)
        book.sell("x")
        self.assertEqual((book.journey(0), book.sale_credits(0), book.postings), ((), (NONE,) * 3, ()))
        book.touch("x", "ad", 0)
        self.assertEqual((book.journey(0), book.sale_credits(0)), ((("ad", 0),), (WHOLE, NONE, NONE)))
        self.assertEqual(book.postings, ((0, (WHOLE, NONE, NONE)),))
        book(1)
        book.touch("x", "mail", 1)
        self.assertEqual(book.journey(0), (("ad", 0),))
        self.assertEqual(book.sell("x"), 1)
        self.assertEqual(book.journey(1), (("ad", 1), ("mail", 0)))

    def test_other_devices(self):
        book = Book(EVEN)
        book.touch("y", "ad", 0)
        book.sell("x")
        self.assertEqual((book.journey(0), book.postings), ((), ()))
        book.sell("y")
        self.assertEqual((book.journey(1), book.postings), ((("ad", 0),), ((1, (WHOLE, NONE, NONE)),)))

    def test_joins_through_others(self):
        book = Book(EVEN)
        for device, kind in (("a", "ad"), ("b", "mail"), ("c", "direct"), ("d", "ad")):
            book.touch(device, kind, 0)
        book.sell("a")
        book.sell("d")
        book.unite("b", "c")
        self.assertEqual([len(book.journey(number)) for number in (0, 1)], [1, 1])
        book.unite("c", "a")
        self.assertEqual([len(book.journey(number)) for number in (0, 1)], [3, 1])
        self.assertEqual(book.sale_credits(0), ((1, 3),) * 3)
        book.unite("e", "d")
        book.unite("b", "e")
        self.assertEqual([book.journey(number) for number in (0, 1)],
                         [(("ad", 0), ("mail", 0), ("direct", 0), ("ad", 0))] * 2)
        self.assertEqual(book.postings[-2:], ((0, ((1, 6), (-1, 12), (-1, 12))), (1, ((-1, 2), (1, 4), (1, 4)))))
        self.assertEqual(len(book), 10)

    def test_joins_of_the_same_one_and_of_two_that_are_one(self):
        book = Book(EVEN)
        book.touch("a", "ad", 0)
        book.sell("b")
        self.assertIsNone(book.unite("a", "a"))
        self.assertEqual((book.postings, len(book)), ((), 3))
        book.unite("a", "b")
        self.assertEqual((book.postings, len(book)), (((0, (WHOLE, NONE, NONE)),), 4))
        for device, other in (("a", "b"), ("b", "a"), ("b", "b")):
            book.unite(device, other)
        self.assertEqual((len(book.postings), len(book)), (1, 7))
        # One of these joins taken back leaves the others.
        book.back(many=3)
        self.assertEqual(book.journey(0), (("ad", 0),))
        book.back()
        self.assertEqual((book.journey(0), book.postings), ((), ()))

    def test_sales_taken_back(self):
        book = Book(EVEN)
        book.touch("x", "ad", 0)
        book.touch("x", "mail", 0)
        book.sell("x")
        book.sell("x")
        self.assertIsNone(book.take_back(0))
        self.assertEqual(book.postings, ((0, (HALF, NONE, HALF)), (1, (HALF, NONE, HALF)),
                                         (0, ((-1, 2), NONE, (-1, 2)))))
        self.assertEqual((book.sale_credits(0), book.sales, book.total("ad")), ((NONE,) * 3, 2, HALF))
        self.assertEqual(book.journey(0), (("ad", 0), ("mail", 0)))
        before = state(book)
        check_refusal(self, book.take_back, {"number": 0}, (BadDeed, "value", "back"))
        self.assertEqual(state(book), before)
        book.touch("x", "ad", 0)
        self.assertEqual((book.sale_credits(0), len(book.journey(0))), ((NONE,) * 3, 3))
        self.assertEqual(book.postings[3:], ((1, ((1, 6), NONE, (-1, 6))),))
        book.back(many=2)
        self.assertEqual(book.sale_credits(0), (HALF, NONE, HALF))
        book.take_back(0)
        book.take_back(1)
        self.assertEqual(book.total("ad"), NONE)

    def test_a_sale_without_credits_taken_back_posts_nothing(self):
        book = Book(EVEN)
        book.sell("x")
        book.take_back(0)
        self.assertEqual((book.postings, len(book)), ((), 2))
        check_refusal(self, book.take_back, {"number": 0}, (BadDeed, "value", "back"))

    def test_postings_of_a_deed_by_the_numbers_of_the_sales(self):
        book = Book(rule_with(window=3))
        for hours in (2, 2, 1, 9):
            book(hours)
            book.sell("x")
        self.assertEqual(book.postings, ())
        book.touch("x", "ad", 2)
        one = (WHOLE, NONE, NONE)
        self.assertEqual(book.postings, ((0, one), (1, one), (2, one)))
        book.take_back(1)
        book.touch("x", "mail", 4)
        self.assertEqual(book.postings[4:], ((2, ((-1, 2), NONE, HALF)),))
        book.touch("x", "mail", 13)
        self.assertEqual(book.postings[5:], ((3, (NONE, NONE, WHOLE)),))

    def test_totals(self):
        book = Book(EVEN)
        for kind in ("ad", "mail", "ad"):
            book.touch("x", kind, book(1))
            book.sell("x")
        self.assertEqual([book.total(kind) for kind in EVEN[0]], [(13, 6), NONE, (5, 6)])
        book.take_back(0)
        self.assertEqual([book.total(kind) for kind in EVEN[0]], [(7, 6), NONE, (5, 6)])
        self.assertEqual(book.total("direct"), NONE)

    def test_200_touches_and_one_more(self):
        book = Book(EVEN)
        book(300)
        for hour in range(200):
            book.touch("abcd"[hour % 4], "ad", 200 - hour)
        for device in "abcd":
            book.unite("a", device)
        before = state(book)
        check_refusal(self, book.touch, {"device": "e", "kind": "ad", "hour": 3}, (BadDeed, "value", "many"))
        self.assertEqual(state(book), before)
        self.assertEqual(book.journey(book.sell("e")), ())
        self.assertEqual(book.journey(book.sell("c")), tuple(("ad", 299 - hour) for hour in range(200)))
        # One that is taken back makes room for one.
        book.back(many=7)
        book.touch("e", "ad", 3)
        check_refusal(self, book.touch, {"device": "e", "kind": "ad", "hour": 3}, (BadDeed, "value", "many"))

    def test_40_sales_and_one_more(self):
        book = Book(EVEN)
        self.assertEqual([book.sell("x") for _ in range(40)], list(range(40)))
        book.take_back(3)
        before = state(book)
        check_refusal(self, book.sell, {"device": "y"}, (BadDeed, "value", "many"))
        self.assertEqual(state(book), before)
        self.assertEqual(book.sales, 40)
        book.back(many=2)
        self.assertEqual(book.sell("y"), 39)
        check_refusal(self, book.sell, {"device": "y"}, (BadDeed, "value", "many"))

    def test_many_joins(self):
        book = Book(EVEN)
        words = [one + other for one in "abcdefghijklmnopqrst" for other in "abcdefghijklmnopqrst"]
        book.touch(words[0], "ad", 0)
        book.sell(words[-1])
        for ahead, word in zip(words, words[1:]):
            book.unite(word, ahead)
        self.assertEqual(book.journey(0), (("ad", 0),))
        book.back()
        self.assertEqual(book.journey(0), ())
        book.back(many=398)
        self.assertEqual((len(book), words[1] in book), (2, False))
        for word in words:
            book.unite(words[200], word)
        self.assertEqual(book.journey(0), (("ad", 0),))


class Back(unittest.TestCase):
    def test_each_deed_one_by_one(self):
        book = Book(EVEN)
        states = []
        deeds = [("hours", 10), ("touch", "x", "ad", 4), ("sell", "x"), ("unite", "x", "y"), ("touch", "y", "mail", 7),
                 ("hours", 3), ("sell", "y"), ("take_back", 0), ("unite", "y", "x"), ("touch", "y", "mail", 7),
                 ("unite", "z", "y"), ("take_back", 1), ("sell", "z"), ("touch", "z", "direct", 0)]
        for deed in deeds:
            states.append(state(book))
            do(book, deed)
        last = state(book)
        for number in range(len(deeds) - 1, -1, -1):
            self.assertIsNone(book.back())
            self.assertEqual(state(book), states[number])
        for deed in deeds:
            do(book, deed)
        self.assertEqual(state(book), last)
        for many in (1, 2, 5, len(deeds)):
            twin = book.copy()
            self.assertIsNone(twin.back(many=many))
            self.assertEqual(state(twin), states[len(deeds) - many])
            for deed in deeds[len(deeds) - many:]:
                do(twin, deed)
            self.assertEqual(state(twin), last)

    def test_of_more_than_there_are(self):
        book = Book(EVEN)
        check_refusal(self, book.back, {}, (Nothing, "value", 1))
        book.sell("x")
        book(3)
        before = state(book)
        for many in (3, 4, 10 ** 40):
            check_refusal(self, book.back, {"many": many}, (Nothing, "value", many))
        self.assertEqual(state(book), before)
        book.back(many=2)
        self.assertEqual(state(book), state(Book(EVEN)))

    def test_many_is_passed_by_name_alone(self):
        book = filled()
        before = state(book)
        with self.assertRaises(TypeError):
            book.back(1)
        self.assertEqual(state(book), before)

    def test_of_what_is_no_number(self):
        book = filled()
        before = state(book)
        for many in [thing for thing in odd_things() if not isinstance(thing, int) or thing < 2] + [
                0, -1, None, "1", (1,), LikeInteger()]:
            check_refusal(self, book.back, {"many": many}, (BadNumber, "value", many))
        self.assertEqual(state(book), before)


class Copies(unittest.TestCase):
    def test_a_copy_stands_likewise(self):
        book = filled()
        twin = book.copy()
        self.assertIs(type(twin), Book)
        self.assertIsNot(twin, book)
        self.assertEqual(state(twin), state(book))
        self.assertTrue(twin == book)

    def test_either_goes_on_by_itself(self):
        for deed in (("hours", 2), ("touch", "x", "mail", 1), ("sell", "y"), ("take_back", 0), ("unite", "z", "x"),
                     ("back",)):
            book = filled()
            before = state(book)
            twin = book.copy()
            do(twin, deed)
            after = state(twin)
            self.assertEqual(state(book), before)
            self.assertNotEqual(after, before)
            twin = book.copy()
            do(book, deed)
            self.assertEqual(state(twin), before)
            self.assertEqual(state(book), after)

    def test_all_deeds_can_be_taken_back(self):
        book = filled()
        twin, other = book.copy(), book.copy().copy()
        while len(book):
            book.back()
            twin.back()
            self.assertEqual(state(twin), state(book))
        self.assertEqual(state(twin), state(Book(EVEN)))
        other.back(many=len(other))
        self.assertEqual(state(other), state(Book(EVEN)))
        check_refusal(self, twin.back, {}, (Nothing, "value", 1))


class Trials(unittest.TestCase):
    def test_behind_the_block_the_book_is_as_it_was(self):
        for deed in (("hours", 2), ("touch", "x", "mail", 1), ("sell", "y"), ("take_back", 0), ("unite", "z", "x"),
                     ("back",)):
            book = filled()
            before = state(book)
            with book.trial() as held:
                self.assertIs(held, book)
                self.assertEqual(state(book), before)
                do(book, deed)
                self.assertNotEqual(state(book), before)
            self.assertEqual(state(book), before)
            do(book, deed)
            book.back(many=len(book))
            self.assertEqual(state(book), state(Book(EVEN)))

    def test_deeds_ahead_of_the_block_taken_back_in_it(self):
        book = filled()
        before = state(book)
        with book.trial():
            book.back(many=6)
            book.unite("a", "x")
            book(9)
            book.sell("a")
        self.assertEqual(state(book), before)
        with book.trial():
            book.back(many=len(book))
        self.assertEqual(state(book), before)
        self.assertTrue(book == filled())

    def test_an_exception_passes(self):
        book = filled()
        before = state(book)
        for error in (KeyError("k"), BadDeed("x"), KeyboardInterrupt(), StopIteration()):
            with self.assertRaises(type(error)) as caught:
                with book.trial() as held:
                    held.sell("x")
                    held(4)
                    raise error
            self.assertIs(caught.exception, error)
            self.assertEqual(state(book), before)
        with self.assertRaises(BadNumber):
            with book.trial():
                book.unite("q", "x")
                book.take_back(9)
        self.assertEqual(state(book), before)

    def test_left_by_return(self):
        book = filled()
        before = state(book)

        def leave():
            with book.trial():
                return book.sell("x")

        self.assertEqual(leave(), 2)
        self.assertEqual(state(book), before)

    def test_one_within_another(self):
        book = filled()
        before = state(book)
        with book.trial():
            book.sell("x")
            between = state(book)
            with book.trial() as held:
                self.assertIs(held, book)
                book.back(many=3)
                book(5)
            self.assertEqual(state(book), between)
            book.touch("x", "ad", 2)
        self.assertEqual(state(book), before)

    def test_it_begins_with_the_block(self):
        book = filled()
        trial = book.trial()
        book.sell("x")
        before = state(book)
        with trial:
            book.sell("y")
        self.assertEqual(state(book), before)

    def test_a_copy_made_within_goes_on(self):
        book = filled()
        with book.trial():
            book.sell("x")
            twin = book.copy()
            told = state(twin)
        self.assertEqual(state(twin), told)
        self.assertEqual(twin.sales, book.sales + 1)
        twin.back()
        self.assertEqual(state(twin), state(book))

    def test_under(self):
        book = filled()
        before = state(book)
        self.assertEqual(under(book.trial(), lambda one: (one is book, one.sell("x"))), (True, 2))
        self.assertIsNone(under(book.trial(), lambda one: None))
        self.assertEqual(under(manager=book.trial(), deed=lambda one: one(5)), 17)
        self.assertEqual(state(book), before)
        with self.assertRaises(BadKind):
            under(book.trial(), lambda one: (one.sell("x"), one.touch("x", "no", 0)))
        self.assertEqual(state(book), before)
        self.assertEqual(under(book.trial(), lambda one: under(one.trial(), lambda other: other.sell("x"))), 2)

    def test_under_other_managers(self):
        class Manager:
            def __init__(self, quiet):
                self.quiet, self.told = quiet, []

            def __enter__(self):
                self.told.append("in")
                return "one"

            def __exit__(self, kind, value, trace):
                self.told.append(kind)
                return self.quiet

        manager = Manager(False)
        self.assertEqual(under(manager, lambda one: one * 2), "oneone")
        self.assertEqual(manager.told, ["in", None])
        with self.assertRaises(KeyError):
            under(manager, lambda one: {}[one])
        self.assertEqual(manager.told[2:], ["in", KeyError])


class Alike(unittest.TestCase):
    def test_the_same_deeds_in_turn(self):
        self.assertTrue(filled() == filled())
        self.assertFalse(filled() != filled())
        self.assertTrue(Book(EVEN) == Book(copy.deepcopy(EVEN)))
        book = filled()
        self.assertTrue(book == book)

    def test_other_rules(self):
        for rule in (rule_with(window=60), rule_with(kinds=("ad", "direct", "mails")), rule_with(once="last")):
            self.assertFalse(Book(EVEN) == Book(rule))
            self.assertTrue(Book(EVEN) != Book(rule))

    def test_other_deeds(self):
        makings = [
            [], [("hours", 2)], [("hours", 1), ("hours", 1)], [("hours", 1)], [("sell", "x")], [("sell", "y")],
            [("sell", "x"), ("sell", "y")], [("sell", "y"), ("sell", "x")], [("unite", "x", "y")],
            [("unite", "y", "x")], [("unite", "x", "y"), ("unite", "y", "x")], [("unite", "x", "x")],
            [("touch", "x", "ad", 0)], [("touch", "y", "ad", 0)], [("touch", "x", "mail", 0)],
            [("touch", "x", "ad", 0), ("sell", "x")], [("sell", "x"), ("touch", "x", "ad", 0)],
            [("hours", 1), ("touch", "x", "ad", 0)], [("hours", 1), ("touch", "x", "ad", 1)],
            [("sell", "x"), ("sell", "x"), ("take_back", 0)], [("sell", "x"), ("sell", "x"), ("take_back", 1)],
            [("sell", "x"), ("take_back", 0)], [("touch", "x", "ad", 0), ("hours", 1)],
        ]
        books = []
        for making in makings:
            book = Book(EVEN)
            for deed in making:
                do(book, deed)
            books.append(book)
        for one, book in enumerate(books):
            for other, twin in enumerate(books):
                self.assertIs(book == twin, one == other, (makings[one], makings[other]))
                self.assertIs(book != twin, one != other)

    def test_deeds_taken_back_are_none(self):
        book = filled()
        book.sell("x")
        self.assertFalse(book == filled())
        book.back()
        self.assertTrue(book == filled())
        twin = Book(EVEN)
        with twin.trial():
            twin.sell("x")
        self.assertTrue(twin == Book(EVEN))

    def test_refused_deeds_are_none(self):
        book = Book(EVEN)
        for call in (lambda: book.sell("X"), lambda: book(0), lambda: book.take_back(0)):
            with self.assertRaises((BadDeed, BadNumber)):
                call()
        self.assertTrue(book == Book(EVEN))

    def test_other_things(self):
        book = Book(EVEN)
        for thing in [thing for thing in odd_things() if not isinstance(thing, EqualToAll)] + [None, 0, EVEN, "book"]:
            self.assertIs(book == thing, False)
            self.assertIs(book != thing, True)
        self.assertIs(book == EqualToAll(), False)


class In(unittest.TestCase):
    def test_devices_of_which_something_was_done(self):
        book = Book(EVEN)
        for deed, devices in ((("hours", 1), ""), (("touch", "a", "ad", 0), "a"), (("sell", "b"), "b"),
                              (("unite", "c", "d"), "cd"), (("unite", "e", "e"), "e"), (("take_back", 0), "")):
            before = [device for device in "abcdef" if device in book]
            do(book, deed)
            self.assertEqual([device for device in "abcdef" if device in book], sorted([*before, *devices]))
        book.back(many=3)
        self.assertEqual([device for device in "abcdef" if device in book], ["a", "b"])
        self.assertIs("a" in book, True)
        self.assertIs("f" in book, False)

    def test_any_value(self):
        book = Book(EVEN)
        book.touch("ad", "ad", 0)
        book.unite("no", "last")
        book.sell("x")
        book(3)
        book.take_back(0)
        for thing in [thing for thing in odd_things() if not isinstance(thing, str) or thing != "no"] + [
                None, 0, 1, 3, ("x",), ["x"], b"x", "mail", "direct", "hours", "sale", "touch", Unshowable()]:
            self.assertIs(thing in book, False)
        self.assertTrue("no" in book)

    def test_refused_ones_are_unknown(self):
        book = Book(EVEN)
        with self.assertRaises(BadKind):
            book.touch("x", "no", 0)
        with self.assertRaises(BadDeed):
            book.unite("x", "X")
        self.assertFalse("x" in book)


class Calls(unittest.TestCase):
    def setUp(self):
        self.book = filled()
        self.before = state(self.book)

    def tearDown(self):
        # Whatever was refused changed nothing.
        self.assertEqual(state(self.book), self.before)
        self.assertTrue(self.book == filled())

    def test_a_wrong_rule_is_refused(self):
        check_refusals(self, Book, {"rule": EVEN}, [
            ("rule", rule, (BadRule, "part", part)) for rule, part in wrong_rules() +
            [(thing, "form") for thing in odd_things()]])

    def test_hours(self):
        for hours in odd_things() + [0, -1, 10 ** 4 + 1, 10 ** 6, None, "1", LikeInteger()]:
            check_refusal(self, self.book, {"hours": hours}, (BadNumber, "value", hours))

    def test_touch(self):
        devices = [("device", value, (BadDeed, "value", "device")) for value in NO_WORDS]
        kinds = [("kind", value, (BadKind, "value", value)) for value in odd_things() + ["a", "Mail"]]
        hours = [("hour", value, (BadNumber, "value", value)) for value in odd_things() + [-1, 13, 10 ** 6, None]]
        good = {"device": "x", "kind": "ad", "hour": 1}
        for name, value, told in devices + kinds + hours:
            check_refusal(self, self.book.touch, {**good, name: value}, told)
        check_refusals(self, self.book.touch, good, devices[::5] + kinds[::5] + hours[::5] + hours[-3:])

    def test_touch_of_a_full_book(self):
        book = filled()
        while len(book) < 206:
            book.touch("x", "ad", 3)
        before = state(book)
        for name, value, told in (("device", "", (BadDeed, "value", "device")), ("kind", "no", (BadKind, "value", "no")),
                                  ("hour", 13, (BadNumber, "value", 13)), ("hour", 12, (BadDeed, "value", "many"))):
            check_refusal(self, book.touch, {"device": "x", "kind": "ad", "hour": 1, name: value}, told)
        self.assertEqual(state(book), before)

    def test_sell(self):
        check_refusals(self, self.book.sell, {"device": "x"},
                       [("device", value, (BadDeed, "value", "device")) for value in NO_WORDS])
        book = filled()
        for _ in range(38):
            book.sell("x")
        check_refusal(self, book.sell, {"device": ""}, (BadDeed, "value", "device"))
        check_refusal(self, book.sell, {"device": "x"}, (BadDeed, "value", "many"))

    def test_numbers_of_sales(self):
        for call in (self.book.take_back, self.book.journey, self.book.sale_credits):
            for number in odd_things() + [-1, -2, 2, 40, None, "0"]:
                check_refusal(self, call, {"number": number}, (BadNumber, "value", number))
        for number in (0, -1):
            check_refusal(self, Book(EVEN).journey, {"number": number}, (BadNumber, "value", number))
            check_refusal(self, Book(EVEN).sale_credits, {"number": number}, (BadNumber, "value", number))
            check_refusal(self, Book(EVEN).take_back, {"number": number}, (BadNumber, "value", number))
        check_refusal(self, self.book.take_back, {"number": 1}, (BadDeed, "value", "back"))

    def test_unite(self):
        devices = [("device", value, (BadDeed, "value", "device")) for value in NO_WORDS]
        others = [("other", value, (BadDeed, "value", "other")) for value in NO_WORDS]
        good = {"device": "x", "other": "y"}
        check_refusals(self, self.book.unite, good, devices[::3] + others[::3])
        for name, value, told in devices + others:
            check_refusal(self, self.book.unite, {**good, name: value}, told)

    def test_total(self):
        check_refusals(self, self.book.total, {"kind": "ad"}, [
            ("kind", value, (BadKind, "value", value)) for value in odd_things() + ["a", "Ad", "x", None]])

    def test_properties_are_not_set(self):
        for name in ("rule", "hour", "postings", "sales"):
            with self.assertRaises(AttributeError):
                setattr(self.book, name, 1)

    def test_kinds_of_values(self):
        book = self.book
        for value in (book.rule, book.postings, book.postings[0], book.postings[0][1], book.postings[0][1][0],
                      book.journey(0), book.journey(0)[0], book.sale_credits(0), book.sale_credits(0)[0],
                      book.total("ad")):
            self.assertIs(type(value), tuple)
        self.assertEqual([type(value) for value in (book.hour, book.sales, len(book))], [int] * 3)

    def test_what_was_returned_stays_as_it_was(self):
        book = filled()
        told = (book.postings, book.journey(0), book.sale_credits(0))
        kept = copy.deepcopy(told)
        book.touch("x", "direct", 6)
        book.back(many=5)
        self.assertEqual(told, kept)

    def test_names_of_arguments(self):
        book = Book(rule=EVEN)
        self.assertEqual(book(hours=12), 12)
        self.assertIsNone(book.touch(hour=3, kind="ad", device="x"))
        self.assertEqual(book.sell(device="y"), 0)
        self.assertIsNone(book.unite(other="y", device="x"))
        self.assertEqual(book.journey(number=0), (("ad", 9),))
        self.assertEqual(book.sale_credits(number=0), (WHOLE, NONE, NONE))
        self.assertEqual(book.total(kind="ad"), WHOLE)
        self.assertIsNone(book.take_back(number=0))
        self.assertIsNone(book.back(many=1))
        self.assertEqual(len(book), 4)


if __name__ == "__main__":
    unittest.main()
