"""How a RULE leads from STANDING to STANDING, and what it credits at one.

No argument is judged here, but for the form of a STANDING.
"""

from touchshare.rules import GAP, KINDS, ONCE, PICK, SHARES, WEAK, WINDOW
from touchshare.searches import come_from
from touchshare.sharing import age_class, picked, shared_parts, staying
from touchshare.values import fraction, is_integer, is_tuple

# The STANDING behind no TOUCHES.
FIRST = (0, 0, (), ())


class Walk:
    """A RULE, with what it tells of its STANDINGS looked up once."""

    def __init__(self, rule):
        self._rule = rule
        self._kinds = rule[KINDS]
        self._weak = [kind in rule[WEAK] for kind in rule[KINDS]]
        self._marks = rule[SHARES][1] if rule[SHARES][0] == "ages" else ()
        self.far = max([0, *_one_more(rule[WINDOW]), *self._marks])
        self.reach = max([self.far, *_one_more(rule[GAP])])

    def has_form(self, value):
        """Whether any value has the form of a STANDING."""
        if not is_tuple(value, 4) or not is_integer(value[0], 0, self.far) or not is_integer(value[1], 0, 1):
            return False
        if value[1] == 1 and value[0] != self.far:
            return False
        return self._are_pairs(value[2], False) and self._are_pairs(value[3], True)

    def step(self, standing, number, distance):
        """The STANDING behind a TOUCH more, of the KIND of a number, so many hours further back."""
        age, out, strong, soft = standing
        later = min(age + distance, self.far)
        if out == 1 or not self._is_reached(later, distance):
            return (self.far, 1, strong, soft)
        strong, soft = self.grown(strong, soft, (number, age_class(self._rule, later)))
        return (later, 0, strong, soft)

    def nexts(self, standing):
        """Pairs of the number of a KIND and the STANDING behind a TOUCH more of it: all STANDINGS that come so.

        At OUT 1, where all of them are the same one, none is told.
        """
        age, out, strong, soft = standing
        if out == 1:
            return []
        found = []
        spans = self._spans(age)
        for number in range(len(self._kinds)):
            for level, first, last in spans:
                strong_more, soft_more = self.grown(strong, soft, (number, level))
                found.extend([(number, (later, 0, strong_more, soft_more)) for later in range(first, last + 1)])
        if not self._is_reached(self.far, self.reach):
            found.append((0, (self.far, 1, strong, soft)))
        return found

    def standing_of(self, journey):
        """The STANDING behind a whole JOURNEY, however many TOUCHES it has."""
        standing = FIRST
        looked_at = 0
        for kind, age in reversed(journey):
            standing = self.step(standing, self._kinds.index(kind), age - looked_at)
            # At OUT 1 all that is further back changes nothing.
            if standing[1] == 1:
                break
            looked_at = age
        return standing

    def all_from(self, standing):
        """All STANDINGS that come behind one, as come_from tells them, the step being the number of a KIND."""
        return come_from(standing, lambda ahead: self.nexts(ahead))

    def touches_to(self, came, standing):
        """The tuple of the TOUCHES, in time, by which one STANDING came of all that all_from told."""
        touches = []
        while came[standing] is not None:
            ahead, number = came[standing]
            # What is not reached stands behind the reach; the AGES of others are kept by their STANDINGS.
            age = standing[0] if standing[1] == 0 else ahead[0] + self.reach
            touches.append((self._kinds[number], age))
            standing = ahead
        return tuple(touches)

    def credits_at(self, standing):
        """The CREDITS of all KINDS at a STANDING."""
        parts, whole = self._kind_parts(standing)
        return tuple([fraction(part, whole) for part in parts])

    def has_reached(self, standing):
        """Whether some TOUCH is reached at a STANDING."""
        _, _, strong, soft = standing
        return len(strong) + len(soft) > 0

    def given_at(self, standing):
        """What is GIVEN at a STANDING."""
        parts, whole = self._kind_parts(standing)
        return fraction(sum(parts), whole)

    def has_credit(self, standing, number):
        """Whether the KIND of a number has a CREDIT above 0 at a STANDING."""
        parts, _ = self._kind_parts(standing)
        return parts[number] > 0

    def grown(self, strong, soft, pair):
        """A pair: STRONG and SOFT with a TOUCH more, told by the numbers of its KIND and CLASS."""
        if self._weak[pair[0]]:
            return strong, self._kept((pair, *soft))
        return self._kept((pair, *strong)), soft

    def _is_reached(self, age, distance):
        """Whether a TOUCH of such an AGE, so many hours behind a reached one, is reached."""
        return _is_within(age, self._rule[WINDOW]) and _is_within(distance, self._rule[GAP])

    def _spans(self, age):
        """Triples of a CLASS and the first and last AGE in it that is reached behind another AGE; perhaps none."""
        last = self.far
        if self._rule[WINDOW] is not None:
            last = min(last, self._rule[WINDOW])
        if self._rule[GAP] is not None:
            last = min(last, age + self._rule[GAP])
        starts = [0, *self._marks]
        ends = [mark - 1 for mark in self._marks] + [last]
        spans = [(level, max(age, start), min(last, end)) for level, (start, end) in enumerate(zip(starts, ends))]
        return [span for span in spans if span[1] <= span[2]]

    def _kept(self, pairs):
        """Of STRONG or SOFT, with a TOUCH more, those that are told."""
        if self._rule[ONCE] == "all":
            return picked(self._rule, pairs)
        numbers = [number for number, _ in pairs]
        return tuple([pairs[place] for place in staying(self._rule, numbers)])

    def _kind_parts(self, standing):
        """A pair: of each KIND how many parts it has at a STANDING, and how many are the whole."""
        _, _, strong, soft = standing
        chosen = picked(self._rule, strong or soft)
        chosen_parts, whole = shared_parts(self._rule, [level for _, level in chosen])
        parts = [0] * len(self._kinds)
        for (number, _), part in zip(chosen, chosen_parts):
            parts[number] += part
        return parts, whole

    def _are_pairs(self, value, weak):
        """Whether any value can be STRONG, or SOFT if weak is True."""
        if not isinstance(value, tuple) or not all([self._is_pair(pair, weak) for pair in value]):
            return False
        # There are at most 4 in either case: PICK takes no more, and there are no more KINDS.
        if self._rule[ONCE] == "all":
            return len(value) <= self._rule[PICK][1]
        return len(set([number for number, _ in value])) == len(value)

    def _is_pair(self, value, weak):
        if not is_tuple(value, 2) or not is_integer(value[0], 0, len(self._kinds) - 1):
            return False
        return self._weak[value[0]] == weak and is_integer(value[1], 0, len(self._marks))


def _one_more(limit):
    return [] if limit is None else [limit + 1]


def _is_within(hours, limit):
    return limit is None or hours <= limit
