"""touchshare.joins: what is joined, joins taken back, and that no way to the top is long."""

import random
import unittest

from touchshare.joins import Joins

DEVICES = list(range(512))


def way(joins, device):
    """How many devices a device hangs under, one under another one."""
    return 0 if device not in joins._above else 1 + way(joins, joins._above[device])


class Ways(unittest.TestCase):
    def check(self, joins, many):
        """As many as two to the power of the longest way are joined at least."""
        self.assertEqual(len({joins.top(device) for device in DEVICES[:many]}), 1)
        self.assertLessEqual(2 ** max(way(joins, device) for device in DEVICES[:many]), many)

    def test_joined_in_turn(self):
        for pair in (lambda n: (n - 1, n), lambda n: (n, n - 1), lambda n: (0, n), lambda n: (n, 0)):
            joins = Joins()
            for number in DEVICES[1:]:
                joins.unite(*pair(number))
            self.check(joins, 512)

    def test_joined_by_chance_taken_back_and_joined_anew(self):
        chance = random.Random(4)
        for _ in range(20):
            joins = Joins()
            for turn in range(4):
                rest = [(number, chance.randrange(number)) for number in DEVICES[1:]]
                chance.shuffle(rest)
                for one, other in rest:
                    joins.unite(*chance.choice([(one, other), (other, one)]))
                self.assertEqual(joins.made(), 511)
                self.check(joins, 512)
                joins = chance.choice([joins, joins.twin()])
                joins.cut_to(chance.choice([0, 100, 400, 510]))

    def test_pairs_of_pairs(self):
        joins = Joins()
        step = 1
        while step < 512:
            for number in range(0, 512, 2 * step):
                joins.unite(number + step, number)
            step *= 2
        self.check(joins, 512)
        joins.cut_to(256)
        self.assertEqual(len({joins.top(device) for device in DEVICES}), 256)
        self.assertEqual(joins.made(), 256)

    def test_a_lesser_one_hangs_under_a_greater_one(self):
        joins = Joins()
        for one, other in (("a", "b"), ("a", "c"), ("d", "e")):
            joins.unite(one, other)
        joins.unite("d", "a")
        self.assertEqual(joins.top("e"), joins.top("a"))
        self.assertEqual(joins.top("e"), "a")
        # Behind joins that were taken back the sizes are those of before.
        joins.cut_to(0)
        joins.unite("d", "e")
        joins.unite("a", "d")
        self.assertEqual(joins.top("a"), "d")

    def test_a_twin_knows_the_sizes(self):
        joins = Joins()
        joins.unite("a", "b")
        twin = joins.twin()
        twin.unite("c", "a")
        self.assertEqual((twin.top("c"), joins.top("c")), ("a", "c"))
        joins.unite("d", "e")
        joins.unite("d", "f")
        joins.unite("b", "f")
        self.assertEqual((joins.top("a"), twin.top("a")), ("d", "a"))


if __name__ == "__main__":
    unittest.main()
