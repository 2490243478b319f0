"""Some RULES of the same KINDS abreast: what comes of all of them behind one JOURNEY."""

from touchshare.charts import Chart, side_by_side, touches_of
from touchshare.rules import KINDS
from touchshare.searches import come_from, steps_to


class Abreast:
    """Some RULES of the same KINDS, from 1 on; a row is a tuple of the numbers of a STANDING of each."""

    def __init__(self, rules):
        self._first_rule = rules[0]
        self._charts = [Chart(rule) for rule in rules]
        self.first = tuple([chart.first for chart in self._charts])

    def has_form(self, value):
        """Whether any value is a tuple of as many things, each of the form of a STANDING of its RULE."""
        if not isinstance(value, tuple) or len(value) != len(self._charts):
            return False
        return all([chart.has_form(standing) for chart, standing in zip(self._charts, value)])

    def row_of(self, standings):
        """The row of a tuple of STANDINGS."""
        return tuple([chart.number_of(standing) for chart, standing in zip(self._charts, standings)])

    def standings(self, row):
        """The tuple of the STANDINGS of a row."""
        return tuple([chart.standing(number) for chart, number in zip(self._charts, row)])

    def nexts(self, row):
        """Pairs of a step, the number of a KIND and a distance, and the row behind it: all rows that come so."""
        found = []
        for kind in range(len(self._first_rule[KINDS])):
            lists = [chart.row(number, kind) for chart, number in zip(self._charts, row)]
            found.extend([((kind, distance), behind) for distance, behind in enumerate(side_by_side(lists))])
        return found

    def all_rows(self):
        """All rows that come, as come_from tells them."""
        return come_from(self.first, lambda ahead: self.nexts(ahead))

    def journey_to(self, came, row):
        """A JOURNEY, as short as can be, to one row of all that all_rows told."""
        return touches_of(self._first_rule, steps_to(came, row))

    def credits_at(self, row):
        """The tuple of the CREDITS of all KINDS by each RULE."""
        return tuple([chart.credits_at(number) for chart, number in zip(self._charts, row)])
