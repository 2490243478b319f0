"""What comes of a JOURNEY if some touches that were not seen are put in.

No argument is judged here.
"""

from touchshare.charts import Chart
from touchshare.rules import GAP, GREATEST_AGE, KINDS, SHARES
from touchshare.values import ordered_fractions


class Unseen:
    """A JOURNEY by a RULE of which at most so many touches were not seen.

    A spot is a pair of the number of a STANDING and of the AGE of the last touch that was looked at, from the sale
    back. What was put in up to a spot is told as a tuple of pairs, the place in the JOURNEY and the touch.
    """

    def __init__(self, rule, journey, many):
        self._kinds = rule[KINDS]
        self._gap = rule[GAP]
        self._marks = rule[SHARES][1] if rule[SHARES][0] == "ages" else ()
        self._journey = journey
        self._many = many
        self._chart = Chart(rule)
        self._ends = self._all_ends()

    def amounts_of(self, number):
        """All CREDITS of the KIND of a number, of all FULL JOURNEYS, ascending as numbers."""
        return ordered_fractions([self._amount(spot, number) for spot in self._ends])

    def shortest(self, number, amount):
        """A FULL JOURNEY with as few touches as can be of which the KIND of a number has this CREDIT."""
        put_in = min([self._ends[spot] for spot in self._ends if self._amount(spot, number) == amount], key=len)
        touches = list(self._journey)
        # The places stand from the last one back, so none moves those behind it.
        for place, touch in put_in:
            touches.insert(place, touch)
        return tuple(touches)

    def _amount(self, spot, number):
        return self._chart.credits_at(spot[0])[number]

    def _all_ends(self):
        """A dict: of each spot behind the whole JOURNEY, what was put in, as few touches as can be."""
        spots = {(self._chart.first, 0): ()}
        for place in reversed(range(len(self._journey))):
            kind, age = self._journey[place]
            spots = self._with_more(spots, place + 1, age)
            spots = self._with_next(spots, self._kinds.index(kind), age)
        return self._with_more(spots, 0, GREATEST_AGE)

    def _with_next(self, spots, kind, age):
        """The spots behind the next touch of the JOURNEY."""
        found = {}
        for (number, ahead), put_in in spots.items():
            spot = (self._chart.behind(number, kind, age - ahead), age)
            # Whoever needs fewer touches to stand at a spot can do all that the other can.
            if spot not in found or len(found[spot]) > len(put_in):
                found[spot] = put_in
        return found

    def _with_more(self, spots, place, until):
        """The spots, and those behind touches put in at a place, of AGES up to that of the next touch."""
        found = {spot: spots[spot] for spot in spots}
        for used in range(self._many):
            layer = [spot for spot in found if len(found[spot]) == used]
            for ahead in layer:
                for touch, spot in self._nexts(ahead, until):
                    if spot not in found or len(found[spot]) > used + 1:
                        found[spot] = (*found[ahead], (place, touch))
        return found

    def _nexts(self, spot, until):
        """Pairs of a touch put in behind a spot and the spot behind it."""
        number, age = spot
        found = []
        for moment in self._moments(age, until):
            for kind, name in enumerate(self._kinds):
                behind = self._chart.behind(number, kind, moment - age)
                # What is not reached changes nothing: neither would what lies behind it be reached without it.
                if not self._chart.is_out(behind):
                    found.append(((name, moment), (behind, moment)))
        return found

    def _moments(self, age, until):
        """The AGES, from one up to another one, that have to be tried for a touch put in.

        Of touches put in that are reached, only their CLASSES and whether the next touch is reached tell. So each can
        lie as near to the sale as these let it: at once, where a CLASS begins, or as many GAPS as there may be touches
        ahead of where a CLASS begins or of the next touch.
        """
        spans = [0] if self._gap is None else [self._gap * times for times in range(self._many + 1)]
        ages = [age, *[mark - span for mark in self._marks for span in spans], *[until - span for span in spans[1:]]]
        return sorted(set([moment for moment in ages if age <= moment <= until]))
