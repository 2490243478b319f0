"""The TRACKS of a RULE and a KIND that is put in: what comes without the touch and with it.

No argument is judged here, but for the form of a TRACK.
"""

from touchshare.charts import Chart, side_by_side, touches_of
from touchshare.rules import KINDS
from touchshare.searches import come_from, steps_to
from touchshare.values import fraction_less, is_integer, is_tuple

# The places of what a TRACK tells.
ONE = 0
OTHER = 1
SLACK = 2
PUT = 3


class Tracks:
    """A RULE and a KIND that is put in; a track is a TRACK with the numbers of its STANDINGS in their place."""

    def __init__(self, rule, kind):
        self._rule = rule
        self._put_kind = rule[KINDS].index(kind)
        self._chart = Chart(rule)
        self.first = (self._chart.first, self._chart.first, 0, 0)

    def has_form(self, value):
        """Whether any value has the form of a TRACK."""
        if not is_tuple(value, 4) or not is_integer(value[SLACK], 0, self._chart.reach):
            return False
        if not self._chart.has_form(value[ONE]) or not self._chart.has_form(value[OTHER]):
            return False
        if not is_integer(value[PUT], 0, 1):
            return False
        return value[PUT] == 1 or (value[ONE] == value[OTHER] and value[SLACK] == 0)

    def track_of(self, told):
        """The track of a TRACK."""
        one, other, slack, put = told
        return (self._chart.number_of(one), self._chart.number_of(other), slack, put)

    def told(self, track):
        """The TRACK of a track."""
        one, other, slack, put = track
        return (self._chart.standing(one), self._chart.standing(other), slack, put)

    def nexts(self, track):
        """Pairs of a step, the number of a KIND and a distance, and the track behind it: all tracks that come so."""
        one, other, slack, put = track
        found = []
        for kind in range(len(self._rule[KINDS])):
            # Behind the touch that was put in, what lies D hours further back lies D + SLACK behind the others.
            without = self._chart.row(one, kind)
            rows = [without[slack:] or without[-1:], self._chart.row(other, kind)]
            found.extend([((kind, distance), (less, more, 0, put))
                          for distance, (less, more) in enumerate(side_by_side(rows))])
        if put == 0:
            found.extend([((self._put_kind, distance), (one, more, distance, 1))
                          for distance, more in enumerate(self._put_row(other))])
        return found

    def all_tracks(self):
        """All tracks that come, as come_from tells them."""
        return come_from(self.first, lambda ahead: self.nexts(ahead))

    def journey_to(self, came, track):
        """A pair: a JOURNEY, as short as can be, to one track with PUT 1, and the number of the touch put in."""
        journey = touches_of(self._rule, steps_to(came, track))
        number = 0
        # The steps stand as the touches do: each ahead of the one put in leads to one more track with PUT 1.
        while came[track][0][PUT] == 1:
            track = came[track][0]
            number += 1
        return (journey, number)

    def both_credits(self, track, number):
        """The pair of the CREDITS of the KIND of a number, without the touch and with it."""
        return (self._chart.credits_at(track[ONE])[number], self._chart.credits_at(track[OTHER])[number])

    def gain(self, track, number):
        """What the KIND of a number gains by the touch put in."""
        without, among = self.both_credits(track, number)
        return fraction_less(among, without)

    def _put_row(self, number):
        """The numbers behind the touch put in, by its distance from 0 to the REACH."""
        row = self._chart.row(number, self._put_kind)
        return row + row[-1:] * (self._chart.reach + 1 - len(row))
