"""What a book knows, and the deeds by which it came to know it.

Nothing is judged here: a deed that is handed in is done.
"""

from touchshare.joins import Joins
from touchshare.values import fraction_less
from touchshare.walks import Walk


class Ledger:
    """The deeds of a book, what they made, and of each one what was there ahead of it."""

    def __init__(self, rule):
        self._rule = rule
        self._walk = Walk(rule)
        self._ahead = []
        # A deed is a tuple: its word, the devices that it names, what else it was done with.
        self.deeds = []
        self.now = 0
        # DEVICE, KIND and hour of each touch, as they became known; DEVICE and hour of each sale.
        self.touches = []
        self.sold = []
        self.gone = []
        self.joins = Joins()
        self.amounts = ()
        self.posted = []

    def twin(self):
        """A ledger that stands likewise, and goes on by itself."""
        twin = Ledger(self._rule)
        twin._ahead = list(self._ahead)
        twin.deeds = list(self.deeds)
        twin.now = self.now
        twin.touches = list(self.touches)
        twin.sold = list(self.sold)
        twin.gone = list(self.gone)
        twin.joins = self.joins.twin()
        twin.amounts = self.amounts
        twin.posted = list(self.posted)
        return twin

    def let_pass(self, hours):
        """So many hours go by."""
        self._begin(("hours", (), hours))
        self.now += hours

    def learn(self, device, kind, hour):
        """A touch becomes known."""
        self._begin(("touch", (device,), kind, hour))
        self.touches.append((device, kind, hour))
        self._reckon(device)

    def sell(self, device):
        """A sale is made now."""
        self._begin(("sale", (device,)))
        self.sold.append((device, self.now))
        self.amounts = (*self.amounts, self._nothing())
        self._reckon(device)

    def take_back(self, number):
        """A sale is taken back."""
        self._begin(("taken", (), number))
        self.gone.append(number)
        self._reckon(self.sold[number][0])

    def unite(self, device, other):
        """Two devices turn out to be one."""
        self._begin(("join", (device, other)))
        self.joins.unite(device, other)
        self._reckon(device)

    def undo(self, many):
        """Takes back the last deeds, so many, from 1 on."""
        self.now, self.amounts, (touches, sold, gone, made, posted) = self._ahead[-many]
        del self.touches[touches:]
        del self.sold[sold:]
        del self.gone[gone:]
        self.joins.cut_to(made)
        del self.posted[posted:]
        del self.deeds[-many:]
        del self._ahead[-many:]

    def journey(self, number):
        """The JOURNEY of a sale, as known now."""
        device, sale_hour = self.sold[number]
        top = self.joins.top(device)
        known = [(kind, hour) for owner, kind, hour in self.touches
                 if hour <= sale_hour and self.joins.top(owner) == top]
        # Those of one hour stay in the order in which they became known.
        return tuple([(kind, sale_hour - hour) for kind, hour in sorted(known, key=lambda touch: touch[1])])

    def _begin(self, deed):
        """Keeps what is there ahead of a deed: of what only grows, how much of it."""
        grown = (len(self.touches), len(self.sold), len(self.gone), self.joins.made(), len(self.posted))
        self._ahead.append((self.now, self.amounts, grown))
        self.deeds.append(deed)

    def _reckon(self, device):
        """Reckons the CREDITS of all sales of a device and those joined with it, and posts by how much they changed."""
        top = self.joins.top(device)
        before = self.amounts
        self.amounts = tuple([self._amount(number) if self.joins.top(sale[0]) == top else before[number]
                              for number, sale in enumerate(self.sold)])
        for number, (old, new) in enumerate(zip(before, self.amounts)):
            if old != new:
                self.posted.append((number, tuple([fraction_less(more, less) for less, more in zip(old, new)])))

    def _amount(self, number):
        """The CREDITS of a sale, as known now."""
        if number in self.gone:
            return self._nothing()
        return self._walk.credits_at(self._walk.standing_of(self.journey(number)))

    def _nothing(self):
        """The CREDITS of all KINDS where none has any."""
        return self._walk.credits_at(self._walk.standing_of(()))
