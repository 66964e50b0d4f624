"""Point [18]: with which pulls, the same one in each tick, nothing is lost."""

import itertools
import random
import unittest

from poleslips.drives import even_drive, slowed
from poleslips.keeping import kept_pulls, next_change
from poleslips.plays import is_kept, play
from support import HUGE, SMALL_WHEELS, as_few, at_once, beginnings, tick_by_tick

WHEEL = (400, 100)
TWICE = [(0, 2), (10, -1), (12, -1), (13, -1)]


def keeps(wheel, place, drive, pull):
    """Whether no round is lost at any item, tick by tick."""
    states = tick_by_tick(wheel, pull, place, drive, drive[-1][0] if drive else 0)
    return all(states[tick][2] == 0 for tick, _ in drive)


def torn_drive(wheel, chosen, pulls, longest):
    """A place and a drive of up to twelve items whose turns tear the keeping pulls into several stretches."""
    fore, back = wheel[0] // 2, (wheel[0] - 1) // 2
    place = chosen.randrange(-fore, back + 1)
    heres, field, tick, gap, drive = {pull: place for pull in sorted(pulls)}, 0, 0, chosen.randrange(3), []
    for _ in range(chosen.randrange(1, 13)):
        tick += gap
        for pull, here in heres.items():
            heres[pull] = here + max(-pull * gap, min(pull * gap, field - here))
        some = [here - field for here in heres.values()] or [0]
        edges = [here + beside for here in (min(some), max(some)) for beside in (-back, fore)]
        turns = [chosen.randrange(min(edges) // wheel[1], max(edges) // wheel[1] + 2) or 1 for _ in range(12)]
        if chosen.random() < 0.93:
            turn = max(turns, key=lambda turn: torn(heres, field + turn * wheel[1], fore, back))
        else:
            turn = turns[0]
        drive.append((tick, turn))
        field += turn * wheel[1]
        heres = {pull: here for pull, here in heres.items() if -back <= field - here <= fore}
        gap = chosen.choice([1, chosen.randrange(1, 1 + longest)])
    return place, drive


def torn(heres, field, fore, back):
    """How many stretches of the pulls keep at this field, and how many pulls."""
    kept = [-back <= field - here <= fore for here in heres.values()]
    return sum(one and not other for one, other in zip(kept, kept[1:] + [False])), sum(kept)


class Texts(unittest.TestCase):
    def test_text_of_point_18(self):
        shown = [play(WHEEL, pull, 0, TWICE)[3][1] for pull in (14, 15, 33, 34)]
        self.assertEqual(shown, [98, 105, 101, 98])
        self.assertEqual(kept_pulls(WHEEL, 0, TWICE, 34), [(0, 14), (34, 34)])
        self.assertEqual(next_change(WHEEL, 0, TWICE, 33), 34)


class Kept(unittest.TestCase):
    def test_no_items(self):
        for place in (-200, -1, 0, 199):
            self.assertEqual([kept_pulls(WHEEL, place, [], most) for most in (0, 1, 400, 10 ** 29)],
                             [[(0, 0)], [(0, 1)], [(0, 400)], [(0, 10 ** 29)]])
            self.assertEqual([next_change(WHEEL, place, [], pull) for pull in (0, 1, 400, 10 ** 29)], [None] * 4)

    def test_no_pull_keeps(self):
        for drive in ([(0, 3)], [(0, -2)], [(7, 6)], [(0, 2), (1, 4)], [(9, HUGE)], [(0, 1), (100, 3)]):
            self.assertEqual([kept_pulls(WHEEL, 0, drive, most) for most in (0, 1, 400, 10 ** 29)], [[]] * 4)
            self.assertEqual([next_change(WHEEL, 0, drive, pull) for pull in (0, 1, 400, 10 ** 29)], [None] * 4)

    def test_all_pulls_keep(self):
        for drive in ([(0, 2)], [(0, -1)], [(0, 2), (1, -1)], [(0, 1), (5, -1), (6, 1)]):
            self.assertEqual([kept_pulls(WHEEL, 0, drive, most) for most in (0, 1, 400, 10 ** 29)],
                             [[(0, 0)], [(0, 1)], [(0, 400)], [(0, 10 ** 29)]])
            self.assertEqual([next_change(WHEEL, 0, drive, pull) for pull in (0, 1, 400, 10 ** 29)], [None] * 4)

    def test_the_most_cuts_the_last_stretch(self):
        told = [kept_pulls(WHEEL, 0, TWICE, most) for most in (0, 13, 14, 15, 33, 34, 35, 10 ** 29)]
        self.assertEqual(told, [
            [(0, 0)], [(0, 13)], [(0, 14)], [(0, 14)], [(0, 14)], [(0, 14), (34, 34)], [(0, 14), (34, 35)],
            [(0, 14), (34, 10 ** 29)],
        ])

    def test_the_first_item_at_tick_0_and_later(self):
        self.assertEqual([kept_pulls(WHEEL, place, [(0, 1)], 9) for place in (-101, -100, 0, 199)],
                         [[], [(0, 9)], [(0, 9)], [(0, 9)]])
        self.assertEqual([kept_pulls(WHEEL, -150, [(tick, 1)], 99) for tick in (0, 1, 2, 3, 7)],
                         [[], [(50, 99)], [(25, 99)], [(17, 99)], [(8, 99)]])
        self.assertEqual([kept_pulls(WHEEL, 150, [(tick, -1)], 99) for tick in (0, 1, 2, 3, 7)],
                         [[], [(51, 99)], [(26, 99)], [(17, 99)], [(8, 99)]])

    def test_next_change_goes_through_all_changes(self):
        self.assertEqual([next_change(WHEEL, 0, TWICE, pull) for pull in range(40)],
                         [15] * 15 + [34] * 19 + [None] * 6)
        self.assertEqual([next_change(WHEEL, 0, [(0, 2), (10, -2)], pull) for pull in (0, 18, 19, 20, 21, 10 ** 29)],
                         [20, 20, 20, None, None, None])
        self.assertEqual([next_change((5, 2), 0, [(0, 1), (1, 1)], pull) for pull in range(4)], [2, 2, None, None])
        # Half a round in one tick: the greatest change that there can be.
        self.assertEqual([next_change((400, 199), -200, [(1, 1)], pull) for pull in (0, 198, 199, 200)],
                         [199, 199, None, None])
        self.assertEqual([next_change((401, 200), -200, [(1, 1)], pull) for pull in (0, 199, 200)], [200, 200, None])
        self.assertEqual([next_change((4, 1), -2, [(1, 2)], pull) for pull in range(4)], [2, 2, None, None])
        self.assertEqual([kept_pulls((4, 1), -2, [(1, 2)], most) for most in range(4)], [[], [], [(2, 2)], [(2, 3)]])

    def test_kinds_and_names(self):
        told = kept_pulls(wheel=WHEEL, place=0, drive=TWICE, most=100)
        self.assertIs(type(told), list)
        for stretch in told:
            self.assertEqual((type(stretch), [type(number) for number in stretch]), (tuple, [int, int]))
        self.assertIs(type(next_change(wheel=WHEEL, place=0, drive=TWICE, pull=3)), int)


class OneByOne(unittest.TestCase):
    """Small wheels and drives, held against each pull."""

    def check(self, wheel, place, drive):
        greatest = wheel[0] + 2
        kept = [pull for pull in range(greatest + 1) if keeps(wheel, place, drive, pull)]
        call = wheel, place, drive
        told = kept_pulls(*call, greatest)
        self.assertEqual(told, as_few(kept), call)
        for most in (0, 1, 2, wheel[0] // 2, wheel[0]):
            self.assertEqual(kept_pulls(*call, most), as_few([pull for pull in kept if pull <= most]), (call, most))
        later = None
        for pull in range(greatest, -1, -1):
            self.assertEqual(next_change(*call, pull), later, (call, pull))
            if (pull in kept) != (pull - 1 in kept):
                later = pull
        self.assertIsNone(next_change(*call, greatest + 1))
        self.assertIsNone(next_change(*call, HUGE))
        return len(told)

    def test_short_drives(self):
        turns = (-3, -1, 1, 2)
        for wheel in SMALL_WHEELS:
            for place in sorted({beginnings(wheel)[0], -1, 0, 1, beginnings(wheel)[-1]}):
                for one, other, third in itertools.product(turns, turns, (0, -2, 1)):
                    drive = [(place + 6 & 1, one), (3, other), (5, third)]
                    self.check(wheel, place, drive if third else drive[:2])

    def test_longer_drives(self):
        chosen = random.Random(18)
        counts = [0] * 20
        for _ in range(1500):
            size = chosen.randrange(8, 70)
            wheel = (size, chosen.randrange(1, 1 + min(8, (size - 1) // 2)))
            counts[self.check(wheel, *torn_drive(wheel, chosen, list(range(1 + size // 2)), 6))] += 1
        # There are drives with no keeping pull at all, with one stretch, with two and with more.
        self.assertGreater(min(counts[:4]), 9, counts)


class GreatNumbers(unittest.TestCase):
    """Numbers of 28 digits, held against plays at both ends of each stretch and beside them."""

    def check(self, wheel, place, drive, most):
        told = kept_pulls(wheel, place, drive, most)
        edges = {0, most} | {edge + beside for stretch in told for edge in stretch for beside in (-1, 0, 1)}
        for pull in sorted(edge for edge in edges if 0 <= edge <= most):
            kept = any(least <= pull <= greatest for least, greatest in told)
            self.assertIs(is_kept(wheel, pull, place, drive), kept, (wheel, place, drive, pull))
        for one, other in itertools.pairwise(told):
            self.assertLess(one[1] + 1, other[0])
            middle = (one[1] + other[0]) // 2
            self.assertIs(is_kept(wheel, middle, place, drive), False)
            self.assertEqual(next_change(wheel, place, drive, one[0]), one[1] + 1)
            self.assertEqual(next_change(wheel, place, drive, one[1]), one[1] + 1)
            self.assertEqual(next_change(wheel, place, drive, one[1] + 1), other[0])
            self.assertEqual(next_change(wheel, place, drive, other[0] - 1), other[0])
        for least, greatest in told:
            self.assertLessEqual(least, greatest)
            self.assertIs(is_kept(wheel, (least + greatest) // 2, place, drive), True)
        return len(told)

    def test_all_lengths_multiplied(self):
        with at_once():
            for times in (HUGE, HUGE + 1):
                wheel = (400 * times, 100 * times)
                # At tick 13 the wheel is at 7 times the pull, or, if it was at 200, at 200 less 3 times the pull.
                back = 200 * times - 1 - 100 * times
                told = kept_pulls(wheel, 0, TWICE, 100 * times)
                self.assertEqual(told, [(0, back // 7), (-((back - 200 * times) // 3), 100 * times)])
                self.assertEqual(self.check(wheel, 0, TWICE, 100 * times), 2)

    def test_all_ticks_multiplied(self):
        with at_once():
            self.assertEqual(kept_pulls(WHEEL, 0, slowed(TWICE, HUGE), 100), [(0, 100)])
            wheel, slow = (400 * HUGE, 100 * HUGE), slowed(TWICE, HUGE)
            self.assertEqual(kept_pulls(wheel, 0, slow, 100), [(0, 14), (34, 100)])
            self.assertEqual([next_change(wheel, 0, slow, pull) for pull in (0, 14, 15, 33, 34)],
                             [15, 15, 34, 34, None])

    def test_random_ones(self):
        chosen = random.Random(28)
        counts = [0] * 40
        with at_once(60):
            for _ in range(1500):
                size = chosen.randrange(10 ** 28, 10 ** 29)
                wheel = (size, chosen.randrange(1, min(size // 2, 10 ** chosen.randrange(1, 29))))
                slow = 10 ** chosen.randrange(1, 28)
                pulls = [chosen.randrange(1 + size // slow) for _ in range(40)]
                place, drive = torn_drive(wheel, chosen, pulls, slow)
                counts[self.check(wheel, place, drive, chosen.choice([size, 10 ** 29, 10 ** 26]))] += 1
        self.assertGreater(min(counts[1:4]), 9, counts)

    def test_twelve_items_at_once(self):
        # Gaps that are halved again and again, ahead and back: many stretches.
        size = 10 ** 29
        ticks = list(itertools.accumulate([0] + [2 ** (40 - 3 * number) for number in range(11)]))
        drive = [(tick, (-1) ** number * (2 * size // 5)) for number, tick in enumerate(ticks)]
        with at_once():
            self.check((size, 1), 0, drive, size)
            self.check((size, 1), -size // 10, drive, size)
            self.check((size, 1), size // 10, even_drive(12, HUGE, 10 ** 27), size)


if __name__ == "__main__":
    unittest.main()
