"""The STANDINGS of a RULE by numbers: those behind a touch more, by all distances at once, are slices of lists.

No argument is judged here, but for the form of a STANDING.
"""

from touchshare.rules import GAP, KINDS, WINDOW
from touchshare.sharing import age_class
from touchshare.walks import FIRST, Walk


class Chart:
    """A RULE whose STANDINGS have numbers.

    A number tells which STRONG and SOFT there are, by their own number, and the AGE, or that OUT is 1.
    """

    def __init__(self, rule):
        self._rule = rule
        self._walk = Walk(rule)
        self.reach = self._walk.reach
        # Behind the places of all AGES stands that of OUT 1.
        self._out = self._walk.far + 1
        self._levels = [age_class(rule, age) for age in range(self._out)]
        self._shapes = []
        self._shape_numbers = {}
        self._landings = {}
        self._amounts = {}
        self.first = self.number_of(FIRST)

    def has_form(self, value):
        """Whether any value has the form of a STANDING."""
        return self._walk.has_form(value)

    def number_of(self, standing):
        """The number of a STANDING."""
        age, out, strong, soft = standing
        return self._start(strong, soft) + (self._out if out == 1 else age)

    def standing(self, number):
        """The STANDING of a number."""
        shape, place = divmod(number, self._out + 1)
        strong, soft = self._shapes[shape]
        if place == self._out:
            return (self._walk.far, 1, strong, soft)
        return (place, 0, strong, soft)

    def is_out(self, number):
        """Whether OUT is 1 at the STANDING of a number."""
        return number % (self._out + 1) == self._out

    def row(self, number, kind):
        """The numbers behind a TOUCH more of the KIND of a number, that of 0 hours further back first.

        All that is still further back leads to the last one of them.
        """
        shape, place = divmod(number, self._out + 1)
        if place == self._out:
            return [number]
        landing = self._landing(shape, kind)
        limits = self._limits(place)
        if not limits:
            return landing[place:]
        many = max(0, min(limits) + 1)
        near = landing[place:place + many]
        return near + landing[-1:] * (many - len(near)) + [number - place + self._out]

    def behind(self, number, kind, distance):
        """The number behind a TOUCH more of the KIND of a number, so many hours further back."""
        row = self.row(number, kind)
        return row[min(distance, len(row) - 1)]

    def credits_at(self, number):
        """The CREDITS of all KINDS at the STANDING of a number."""
        shape = number // (self._out + 1)
        # They hang on STRONG and SOFT alone.
        if shape not in self._amounts:
            self._amounts[shape] = self._walk.credits_at(self.standing(number))
        return self._amounts[shape]

    def _limits(self, age):
        """By how many hours a TOUCH behind one of this AGE may be further back, and be reached: up to each of these."""
        limits = []
        if self._rule[WINDOW] is not None:
            limits.append(self._rule[WINDOW] - age)
        if self._rule[GAP] is not None:
            limits.append(self._rule[GAP])
        return limits

    def _landing(self, shape, kind):
        """The numbers behind a reached TOUCH more, of the KIND of a number, by its AGE from 0 to FAR."""
        if (shape, kind) not in self._landings:
            strong, soft = self._shapes[shape]
            starts = []
            for level in range(self._levels[-1] + 1):
                strong_more, soft_more = self._walk.grown(strong, soft, (kind, level))
                starts.append(self._start(strong_more, soft_more))
            self._landings[shape, kind] = [starts[level] + age for age, level in enumerate(self._levels)]
        return self._landings[shape, kind]

    def _start(self, strong, soft):
        """The number of the STANDING of the AGE 0 with this STRONG and SOFT."""
        shape = (strong, soft)
        if shape not in self._shape_numbers:
            self._shape_numbers[shape] = len(self._shapes)
            self._shapes.append(shape)
        return self._shape_numbers[shape] * (self._out + 1)


def side_by_side(rows):
    """Rows of some Charts as one list of tuples, by the same hours; each row is made as long as the longest one."""
    longest = max([len(row) for row in rows])
    full = [row + row[-1:] * (longest - len(row)) for row in rows]
    return list(zip(*full))


def touches_of(rule, steps):
    """The touches of steps from the sale back, the last step first: each the number of a KIND and a distance."""
    touches = []
    age = 0
    for number, distance in reversed(steps):
        age += distance
        touches.append((rule[KINDS][number], age))
    return tuple(touches[::-1])
