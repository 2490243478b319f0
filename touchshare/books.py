"""A live book: touches are known late, devices turn out to be one, sales are taken back."""

from touchshare.errors import BadDeed, BadNumber, Nothing
from touchshare.ledgers import Ledger
from touchshare.needs import need_kind, need_number
from touchshare.rules import GREATEST_AGE, KINDS, MOST_TOUCHES, need_rule
from touchshare.values import fraction_sum, is_at_least, is_word

GREATEST_HOUR = GREATEST_AGE
MOST_HOURS = 10000
MOST_SALES = 40


def under(manager, deed):
    """What deed(one) returns, one being what a with statement over manager gives."""
    with manager as one:
        return deed(one)


class Trial:
    """An object for one with statement, behind which a book is as it was ahead."""

    def __init__(self, book):
        self._book = book
        self._before = None

    def __enter__(self):
        self._before = self._book._ledger.twin()
        return self._book

    def __exit__(self, kind, value, trace):
        book = self._book
        book._ledger = self._before


class Book:
    """A book of a RULE: its deeds, its sales, their journeys and credits."""

    def __init__(self, rule):
        self._rule = need_rule(rule)
        self._ledger = Ledger(rule)

    def __call__(self, hours):
        """So many hours go by; the hour of the book."""
        need_number(hours, 1, MOST_HOURS)
        if self._ledger.now + hours > GREATEST_HOUR:
            raise BadDeed("hours")
        self._ledger.let_pass(hours)
        return self._ledger.now

    def __len__(self):
        return len(self._ledger.deeds)

    def __eq__(self, other):
        return isinstance(other, Book) and self._rule == other._rule and self._ledger.deeds == other._ledger.deeds

    def __contains__(self, value):
        return is_word(value) and any([value in deed[1] for deed in self._ledger.deeds])

    @property
    def rule(self):
        return self._rule

    @property
    def hour(self):
        return self._ledger.now

    @property
    def postings(self):
        return tuple(self._ledger.posted)

    @property
    def sales(self):
        return len(self._ledger.sold)

    def touch(self, device, kind, hour):
        """A touch becomes known."""
        _need_device(device, "device")
        need_kind(self._rule, kind)
        need_number(hour, 0, self._ledger.now)
        if len(self._ledger.touches) >= MOST_TOUCHES:
            raise BadDeed("many")
        self._ledger.learn(device, kind, hour)

    def sell(self, device):
        """A sale is made; its number."""
        _need_device(device, "device")
        number = len(self._ledger.sold)
        if number >= MOST_SALES:
            raise BadDeed("many")
        self._ledger.sell(device)
        return number

    def take_back(self, number):
        """A sale is taken back."""
        self._need_sale(number)
        if number in self._ledger.gone:
            raise BadDeed("back")
        self._ledger.take_back(number)

    def unite(self, device, other):
        """Two devices turn out to be one."""
        _need_device(device, "device")
        _need_device(other, "other")
        self._ledger.unite(device, other)

    def journey(self, number):
        """The JOURNEY of a sale, as known now."""
        self._need_sale(number)
        return self._ledger.journey(number)

    def sale_credits(self, number):
        """The CREDITS of a sale, as known now."""
        self._need_sale(number)
        return self._ledger.amounts[number]

    def total(self, kind):
        """The sum of the CREDITS of a kind over all sales."""
        need_kind(self._rule, kind)
        place = self._rule[KINDS].index(kind)
        total = (0, 1)
        for amounts in self._ledger.amounts:
            total = fraction_sum(total, amounts[place])
        return total

    def back(self, *, many=1):
        """Takes back the last deeds, as if they had not been done."""
        if not is_at_least(many, 1):
            raise BadNumber(many)
        if many > len(self._ledger.deeds):
            raise Nothing(many)
        self._ledger.undo(many)

    def copy(self):
        """A book that stands likewise, and goes on by itself."""
        twin = Book(self._rule)
        twin._ledger = self._ledger.twin()
        return twin

    def trial(self):
        """An object for one with statement, behind which the book is as it was."""
        return Trial(self)

    def _need_sale(self, number):
        """BadNumber of what is no number of a sale."""
        need_number(number, 0, len(self._ledger.sold) - 1)


def _need_device(value, part):
    """BadDeed with the name of a part of what is no word."""
    if not is_word(value):
        raise BadDeed(part)
