"""A desk: a book that is asked and told by lines."""

from touchshare.books import Book
from touchshare.errors import BadText, Nothing, ShareError, TooGreat
from touchshare.rules import KINDS
from touchshare.texts import read_rule
from touchshare.values import written_integer
from touchshare.wholes import givings_of, is_whole


def _let_pass(book, words):
    return str(book(written_integer(words[1])))


def _touch(book, words):
    book.touch(words[1], words[2], written_integer(words[3]))
    return "done"


def _join(book, words):
    book.unite(words[1], words[2])
    return "done"


def _take_back(book, words):
    book.take_back(written_integer(words[1]))
    return "done"


def _sell(book, words):
    return str(book.sell(words[1]))


def _tell_credits(book, words):
    amounts = book.sale_credits(written_integer(words[1]))
    kinds = book.rule[KINDS]
    return " ".join([f"{kind} {_written(amount)}" for kind, amount in zip(kinds, amounts)])


def _tell_sum(book, words):
    return _written(book.total(words[1]))


def _tell_journey(book, words):
    journey = book.journey(written_integer(words[1]))
    return " ".join([f"{kind} {age}" for kind, age in journey]) or "none"


def _tell_posted(book, _):
    return str(len(book.postings))


def _undo(book, _):
    try:
        book.back()
    except Nothing:
        return "nothing"
    return "done"


def _tell_whole(book, _):
    return "yes" if is_whole(book.rule) else "not"


def _tell_parts(book, words):
    return " ".join([_written(part) for part in givings_of(book.rule, words[1])])


def _written(fraction):
    return f"{fraction[0]}/{fraction[1]}"


# What a line does, by its first word and by how many words it has.
ACTIONS = {
    ("hours", 2): _let_pass, ("touch", 4): _touch, ("join", 3): _join, ("back", 2): _take_back, ("sell", 2): _sell,
    ("credits", 2): _tell_credits, ("sum", 2): _tell_sum, ("journey", 2): _tell_journey, ("posted", 1): _tell_posted,
    ("undo", 1): _undo, ("whole", 1): _tell_whole, ("parts", 2): _tell_parts,
}


class Desk:
    """A desk with a book of the RULE of a text."""

    def __init__(self, text):
        self._book = Book(read_rule(text))

    @property
    def book(self):
        return self._book

    def say(self, line):
        """The answer to a line; "no" to what is no line or is refused."""
        if not isinstance(line, str):
            raise BadText(0)
        words = line.split(" ")
        sought = (words[0], len(words))
        if sought not in ACTIONS:
            return "no"
        action = ACTIONS[sought]
        try:
            return action(self._book, words)
        except (ShareError, TooGreat):
            return "no"
