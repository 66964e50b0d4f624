"""Stretches of places, ahead and back: what the parts of the program share, held against all places and all ways."""

import itertools
import random
import unittest

from poleslips.spread import shared, spread, spread_back
from support import SMALL_WHEELS, as_few, pulled_once


def integers_of(stretches):
    return {number for least, greatest in stretches for number in range(least, greatest + 1)}


class Stretches(unittest.TestCase):
    def chosen_lists(self, chosen, many):
        for _ in range(many):
            yield as_few(chosen.sample(range(-12, 13), chosen.randrange(14)))

    def test_what_two_lists_have_in_common(self):
        some = list(self.chosen_lists(random.Random(5), 60))
        for one, other in itertools.product(some, repeat=2):
            self.assertEqual(shared(one, other), as_few(integers_of(one) & integers_of(other)))
        self.assertEqual(shared([(0, 10)], [(1, 2), (4, 5), (9, 12)]), [(1, 2), (4, 5), (9, 10)])
        self.assertEqual(shared([(1, 2), (4, 5), (9, 12)], [(0, 10)]), [(1, 2), (4, 5), (9, 10)])
        self.assertEqual(shared([(0, 5), (7, 8)], [(3, 10)]), [(3, 5), (7, 8)])
        self.assertEqual((shared([], [(0, 1)]), shared([(0, 1)], []), shared([(0, 1)], [(2, 3)])), ([], [], []))

    def test_ahead_and_back(self):
        chosen = random.Random(6)
        for wheel in SMALL_WHEELS:
            for short, long in itertools.combinations_with_replacement((0, 1, 2, 3, 9), 2):
                for stretches in self.chosen_lists(chosen, 12):
                    field = chosen.randrange(-9, 10)
                    ends = integers_of(stretches)
                    behind = {pulled_once(wheel, field, place, way) for place in ends for way in range(short, long + 1)}
                    self.assertEqual(spread(wheel, field, stretches, short, long), as_few(behind))
                    ahead = {place for place in range(-30, 31)
                             if any(pulled_once(wheel, field, place, way) in ends for way in range(short, long + 1))}
                    self.assertEqual(spread_back(wheel, field, stretches, short, long), as_few(ahead))


if __name__ == "__main__":
    unittest.main()
