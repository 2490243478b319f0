"""touchshare.searches: what comes from something, the fewest steps, and how many are too many."""

import unittest

from touchshare.errors import TooGreat
from touchshare.searches import come_from, steps_to


class ComeFrom(unittest.TestCase):
    def test_each_comes_by_as_few_steps_as_can_be(self):
        # From a number to the next one, or to twice as much.
        came = come_from(1, lambda n: [(name, m) for name, m in (("next", n + 1), ("twice", 2 * n)) if m <= 10])
        lengths = {}
        for number in came:
            lengths[number] = 0 if came[number] is None else lengths[came[number][0]] + 1
        self.assertEqual(lengths, {1: 0, 2: 1, 3: 2, 4: 2, 6: 3, 5: 3, 8: 3, 7: 4, 10: 4, 9: 4})
        self.assertEqual(list(lengths.values()), sorted(lengths.values()))
        self.assertIsNone(came[1])
        self.assertEqual(came[8], (4, "twice"))

    def test_20000_are_not_too_many(self):
        self.assertEqual(len(come_from(1, lambda n: [(0, n + 1)] if n < 20000 else [])), 20000)
        self.assertEqual(len(come_from(0, lambda n: [(0, m) for m in range(20000)] if n == 0 else [])), 20000)

    def test_one_more_is_too_many(self):
        for nexts in (lambda n: [(0, n + 1)] if n < 20000 else [],
                      lambda n: [(0, m) for m in range(20001)] if n == 0 else [], lambda n: [(0, n + 1)]):
            with self.assertRaises(TooGreat) as caught:
                come_from(0, nexts)
            self.assertEqual(caught.exception.most, 20000)


class StepsTo(unittest.TestCase):
    def test_the_last_step_comes_first(self):
        came = come_from(1, lambda n: [(name, m) for name, m in (("next", n + 1), ("twice", 2 * n)) if m <= 10])
        self.assertEqual(steps_to(came, 1), [])
        self.assertEqual(steps_to(came, 9), ["next", "twice", "twice", "next"])
        self.assertEqual(steps_to(came, 6), ["twice", "next", "next"])


if __name__ == "__main__":
    unittest.main()
