"""touchshare.charts, abreast and tracks: steps by numbers beside those of standings, one by one."""

import random
import unittest

from tests.reckoning import random_rule, small_rules, smallest_rules, told_hours, told_rows, told_tracks
from touchshare.abreast import Abreast
from touchshare.charts import Chart, side_by_side, touches_of
from touchshare.sharing import kind_credits
from touchshare.standings import behind, credits_at, first_standing, hours, is_standing
from touchshare.tracks import Tracks


def forms(rule, chance, many):
    """Some values that have the form of a STANDING, whether they come or not."""
    far, _ = hours(rule)
    found = []
    while len(found) < many:
        levels = len(rule[6][1]) if rule[6][0] == "ages" else 0
        strong = [n for n, kind in enumerate(rule[0]) if kind not in rule[3]]
        soft = [n for n, kind in enumerate(rule[0]) if kind in rule[3]]
        pairs = [tuple((number, chance.randint(0, levels)) for number in chance.sample(some,
            chance.randint(0, len(some))))
                 for some in (strong, soft)]
        out = chance.choice([0, 0, 1])
        value = (far if out else chance.randint(0, far), out, *pairs)
        if is_standing(rule, value):
            found.append(value)
    return found


class Charts(unittest.TestCase):
    def test_rows_beside_behind(self):
        chance = random.Random(3)
        rules = list(small_rules())[::29] + [random_rule(chance) for _ in range(60)]
        for rule in rules:
            chart = Chart(rule)
            self.assertEqual(chart.reach, told_hours(rule)[1])
            self.assertEqual(chart.standing(chart.first), first_standing(rule))
            for standing in forms(rule, chance, 6):
                number = chart.number_of(standing)
                self.assertEqual(chart.standing(number), standing)
                self.assertEqual(chart.number_of(standing), number)
                self.assertEqual(chart.is_out(number), standing[1] == 1)
                self.assertEqual(chart.credits_at(number), credits_at(rule, standing))
                for kind, name in enumerate(rule[0]):
                    row = chart.row(number, kind)
                    self.assertLessEqual(len(row), chart.reach + 1)
                    for distance in range(chart.reach + 3):
                        told = behind(rule, standing, name, distance)
                        self.assertEqual(chart.standing(row[min(distance, len(row) - 1)]), told)
                        self.assertEqual(chart.standing(chart.behind(number, kind, distance)), told)

    def test_no_two_standings_have_the_same_number(self):
        chance = random.Random(4)
        for _ in range(30):
            rule = random_rule(chance)
            chart = Chart(rule)
            told = set(forms(rule, chance, 40))
            self.assertEqual(len({chart.number_of(standing) for standing in told}), len(told))

    def test_side_by_side(self):
        self.assertEqual(side_by_side([[1, 2, 3], [4]]), [(1, 4), (2, 4), (3, 4)])
        self.assertEqual(side_by_side([[1], [4, 5], [6, 7]]), [(1, 4, 6), (1, 5, 7)])
        self.assertEqual(side_by_side([[1]]), [(1,)])

    def test_touches_of(self):
        rule = (("a", "b"), None, None, (), "all", ("last", 1), ("even",))
        self.assertEqual(touches_of(rule, []), ())
        self.assertEqual(touches_of(rule, [(1, 3), (0, 0), (0, 2)]), (("b", 5), ("a", 2), ("a", 2)))


class BesideJourneys(unittest.TestCase):
    def test_rows_that_come(self):
        chance = random.Random(5)
        for many in (1, 2, 3):
            for _ in range(12):
                rules = smallest_rules(chance, many)
                told = told_rows(rules)
                rows = Abreast(rules)
                came = rows.all_rows()
                self.assertEqual(sorted(rows.standings(row) for row in came), sorted(told))
                for row in came:
                    standings = rows.standings(row)
                    journey = rows.journey_to(came, row)
                    self.assertEqual(rows.row_of(standings), row)
                    self.assertTrue(rows.has_form(standings))
                    self.assertEqual(len(journey), len(told[standings]))
                    self.assertEqual(rows.credits_at(row), tuple(kind_credits(rule, journey) for rule in rules))

    def test_tracks_that_come(self):
        chance = random.Random(6)
        for rule in smallest_rules(chance, 40):
            for other in rule[0]:
                told = told_tracks(rule, other)
                tracks = Tracks(rule, other)
                came = tracks.all_tracks()
                self.assertEqual(sorted(tracks.told(track) for track in came), sorted(told))
                for track in came:
                    self.assertEqual(tracks.track_of(tracks.told(track)), track)
                    self.assertTrue(tracks.has_form(tracks.told(track)))
                    if track[3] == 1:
                        journey, number = tracks.journey_to(came, track)
                        self.assertEqual(journey[number][0], other)
                        self.assertEqual(len(journey), len(told[tracks.told(track)][0]))


if __name__ == "__main__":
    unittest.main()
