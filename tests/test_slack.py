"""Point [26]: how far each item of a drive may be off."""

import itertools
import random
import unittest

from poleslips.drives import even_drive, slowed
from poleslips.errors import Impossible, InvalidDrive
from poleslips.losses import is_sure
from poleslips.plays import is_kept
from poleslips.slack import late_drive, shows_late, slack
from support import HUGE, NO_NUMBERS, SMALL_WHEELS, at_once, outcome, tick_by_tick

WHEEL = (400, 100)
DRIVE = [(0, 1), (10, 1), (20, 1)]


def as_drive(late):
    """The drive in which the turns of one tick are one item."""
    return [(tick, sum(turn for _, turn in items)) for tick, items in itertools.groupby(late, lambda item: item[0])]


def slips_with(wheel, low, late):
    """Whether a wheel with the pull low in each tick has a slip, found tick by tick."""
    drive = as_drive(late)
    return any(lost for _, _, lost in tick_by_tick(wheel, low, 0, drive, drive[-1][0] if drive else 0))


def late_lists(drive, by):
    """All late lists of a drive that are changed by at most so much, with the change."""
    ranges = [range(max(0, tick - by), tick + by + 1) for tick, _ in drive]
    for ticks in itertools.product(*ranges):
        if list(ticks) == sorted(ticks):
            change = max([abs(tick - at) for tick, (at, _) in zip(ticks, drive)], default=0)
            yield change, [(tick, turn) for tick, (_, turn) in zip(ticks, drive)]


def slack_of(wheel, low, drive):
    """What `slack` tells; the word "impossible" if it raises Impossible."""
    told = outcome(slack, [wheel, low, drive])
    return told[1] if told[0] == "returned" else {Impossible: "impossible"}[told[0]]


class AllLists(unittest.TestCase):
    """Small wheels and drives, held against all lists with each tick changed."""

    def check(self, wheel, low, drive, most):
        slipping = [change for change, late in late_lists(drive, most) if slips_with(wheel, low, late)]
        told = slack_of(wheel, low, drive)
        if sum(turn for _, turn in drive) * wheel[1] <= wheel[0] // 2:
            self.assertEqual((told, slipping), (None, []))
        elif 0 in slipping:
            self.assertEqual(told, "impossible", (wheel, low, drive))
        elif slipping:
            self.assertEqual(told, min(slipping) - 1, (wheel, low, drive))
        else:
            self.assertGreaterEqual(told, most, (wheel, low, drive))
        for by in range(most + 1):
            late = late_drive(wheel, low, drive, by)
            self.assertIs(late is not None, any(change <= by for change in slipping), (wheel, low, drive, by))
            if late is not None:
                self.check_late(wheel, low, drive, by, late)
        return told

    def check_late(self, wheel, low, drive, by, late):
        self.assertEqual((type(late), [turn for _, turn in late]), (list, [turn for _, turn in drive]))
        ticks = [tick for tick, _ in late]
        self.assertEqual([type(item) for item in late], [tuple] * len(late))
        self.assertEqual((ticks, [type(tick) for tick in ticks]), (sorted(ticks), [int] * len(late)))
        self.assertGreaterEqual(ticks[0], 0)
        self.assertLessEqual(max(abs(tick - at) for tick, (at, _) in zip(ticks, drive)), by)
        self.assertTrue(slips_with(wheel, low, late), (wheel, low, drive, by, late))
        self.assertIs(shows_late(wheel, low, drive, by, late), True)

    def test_short_drives(self):
        drives = [[]] + [[(tick, turn)] for tick in (0, 1, 4) for turn in (1, 2, 4)]
        drives += [[(at, one), (at + gap, other)] for at in (0, 2) for gap in (1, 2, 5, 9) for one in (1, 2)
                   for other in (1, 3)]
        told = set()
        for wheel in SMALL_WHEELS:
            for low in (0, 1, 2, 4):
                for drive in drives:
                    told.add(self.check(wheel, low, drive, 4))
        self.assertLessEqual({None, "impossible", 0, 1, 2, 3}, told)

    def test_three_and_four_items(self):
        chosen = random.Random(26)
        told = set()
        for _ in range(130):
            size = chosen.randrange(5, 25)
            wheel = (size, chosen.randrange(1, min(5, (size - 1) // 2) + 1))
            many = chosen.choice([3, 3, 3, 4])
            ticks = sorted(chosen.sample(range(16), many))
            drive = [(tick, chosen.choice([1, 1, 2])) for tick in ticks]
            told.add(self.check(wheel, chosen.randrange(6), drive, 5 if many == 3 else 3))
        self.assertLessEqual({None, "impossible", 0, 1, 2, 3}, told)

    def test_whatever_the_pulls_are(self):
        # No choice of pulls from low on slips where the pull low does not.
        chosen = random.Random(10)
        both = set()
        for _ in range(300):
            size = chosen.randrange(3, 14)
            wheel = (size, chosen.randrange(1, min(3, (size - 1) // 2) + 1))
            low = chosen.randrange(4)
            late = [(tick, chosen.choice([1, 1, 2])) for tick in sorted(chosen.choices(range(12), k=4))]
            sure = is_sure(wheel, low, low + size, (0, 0), as_drive(late))
            self.assertIs(sure, not slips_with(wheel, low, late))
            both.add(sure)
        self.assertEqual(both, {True, False})


class Texts(unittest.TestCase):
    def test_none_and_impossible(self):
        self.assertIsNone(slack(WHEEL, 0, []))
        self.assertIsNone(slack(WHEEL, 0, [(0, 2)]))
        self.assertIsNone(slack((401, 100), 0, [(0, 1), (HUGE, 1)]))
        for low, drive in [(0, [(0, 1), (9, 2)]), (HUGE, [(0, 3)]), (20, [(0, 2), (4, 1)]), (1, [(7, HUGE)])]:
            self.assertEqual(outcome(slack, [WHEEL, low, drive]), (Impossible, {}))
        self.assertEqual(slack(WHEEL, 20, [(0, 2), (5, 1)]), 0)
        self.assertEqual(slack(WHEEL, 20, [(0, 2), (6, 1)]), 0)
        self.assertEqual(slack(WHEEL, 20, [(0, 2), (7, 1)]), 1)

    def test_two_wrong_things(self):
        # A drive that is wrong is told ahead of one that slips.
        self.assertEqual(outcome(slack, [WHEEL, 20, [(0, 3), (1, -1)]]), (InvalidDrive, {"index": 1}))
        self.assertEqual(outcome(slack, [WHEEL, 20, [(0, -3), None]]), (InvalidDrive, {"index": 0}))
        self.assertEqual(outcome(slack, [WHEEL, 20, [(0, 1), None, (1, -1)]]), (InvalidDrive, {"index": 1}))
        self.assertEqual(outcome(slack, [WHEEL, 20, [(0, 1)] * 61]), (InvalidDrive, {"index": None}))

    def test_a_late_list_from_tick_0_on(self):
        # The first item cannot come earlier than tick 0, but the others come to it.
        for by in range(8, 30):
            late = late_drive(WHEEL, 20, DRIVE, by)
            self.assertIs(shows_late(WHEEL, 20, DRIVE, by, late), True)
            self.assertGreaterEqual(late[0][0], 0)
        self.assertIs(shows_late(WHEEL, 20, DRIVE, 20, [(0, 1), (0, 1), (0, 1)]), True)
        self.assertIs(shows_late(WHEEL, 20, DRIVE, 19, [(0, 1), (0, 1), (0, 1)]), False)

    def test_kinds_and_new_lists(self):
        self.assertIs(type(slack(wheel=WHEEL, low=20, drive=DRIVE)), int)
        told = late_drive(wheel=WHEEL, low=20, drive=DRIVE, by=8)
        kept = list(told)
        told.append((99, 1))
        self.assertEqual(late_drive(WHEEL, 20, DRIVE, 8), kept)
        # Also where the drive itself slips, and no tick is changed.
        same = [(0, 3), (50, 1)]
        told = late_drive(WHEEL, 20, same, 0)
        self.assertEqual(told, same)
        self.assertIsNot(told, same)
        told.clear()
        self.assertEqual(same, [(0, 3), (50, 1)])


class Shows(unittest.TestCase):
    def test_lists_changed_in_one_thing(self):
        late = [(8, 1), (12, 1), (12, 1)]
        self.assertIs(shows_late(WHEEL, 20, DRIVE, 8, late), True)
        self.assertIs(shows_late(wheel=WHEEL, low=20, drive=DRIVE, by=8, value=late), True)
        wrong = [
            [(9, 1), (12, 1), (12, 1)], [(8, 1), (13, 1), (12, 1)], [(8, 1), (12, 1), (11, 1)],
            [(7, 1), (12, 1), (12, 1)], [(8, 2), (12, 1), (12, 1)], [(8, 1), (12, 1), (12, 2)],
            [(8, 1), (12, 2)], [(8, 1), (12, 1)], late + [(12, 1)], late[1:], late[::-1], tuple(late), [],
            [(8, 1), (12, 1), (13, 1)], [[8, 1], (12, 1), (12, 1)], [(8, 1, 1), (12, 1), (12, 1)],
            [(8,), (12, 1), (12, 1)], [(8, True), (12, 1), (12, 1)], [(8, 1), (12, 1.0), (12, 1)],
            [(8.0, 1), (12, 1), (12, 1)], [(8, 1), (12, 1), None], [None] * 3, [(8, 1), (12, 1), (12, -1)],
            [(8, 1), (12, 1), (12, "1")], [(None, 1), (12, 1), (12, 1)], [(8, None), (12, 1), (12, 1)], "abc",
            {8: 1, 12: 2}, {(8, 1), (12, 1)}, 3, iter(late), [(8, 1), (1, 12), (12, 1)],
        ]
        for value in wrong + NO_NUMBERS:
            self.assertIs(shows_late(WHEEL, 20, DRIVE, 8, value), False, value)
        self.assertEqual(late, [(8, 1), (12, 1), (12, 1)])
        # A tick below 0 is none, and True is no tick.
        self.assertIs(shows_late(WHEEL, 0, [(0, 3)], 5, [(-1, 3)]), False)
        self.assertIs(shows_late(WHEEL, 0, [(0, 3)], 5, [(True, 3)]), False)
        self.assertIs(shows_late(WHEEL, 0, [(0, 3)], 5, [(1, 3)]), True)
        self.assertIs(shows_late(WHEEL, 0, [], 5, []), False)

    def test_all_lists(self):
        both = set()
        for wheel, low, drive in [((7, 2), 1, [(1, 1), (4, 1), (6, 1)]), ((5, 1), 1, [(0, 2), (3, 1), (4, 1)]),
                                  ((400, 100), 40, [(0, 2), (3, 1)]), ((6, 1), 0, [(2, 3), (3, 1)])]:
            for ticks in itertools.product(range(-1, 8), repeat=len(drive)):
                value = [(tick, turn) for tick, (_, turn) in zip(ticks, drive)]
                change = max(abs(tick - at) for tick, (at, _) in zip(ticks, drive))
                right = min(ticks) >= 0 and list(ticks) == sorted(ticks) and slips_with(wheel, low, value)
                both.add(right)
                for by in (0, 1, 2, 3, 9):
                    self.assertIs(shows_late(wheel, low, drive, by, value), right and change <= by)
        self.assertEqual(both, {True, False})

    def test_the_drive_itself_may_slip(self):
        self.assertIs(shows_late(WHEEL, 20, [(0, 3)], 0, [(0, 3)]), True)
        self.assertEqual(late_drive(WHEEL, 20, [(5, 3)], 0), [(5, 3)])
        self.assertIs(shows_late(WHEEL, 20, [(5, 3)], 3, [(2, 3)]), True)


class GreatNumbers(unittest.TestCase):
    def check(self, chosen, wheel, low, drive):
        told = slack_of(wheel, low, drive)
        if told is None:
            self.assertIsNone(late_drive(wheel, low, drive, 10 ** 30 - 1))
            return None
        if told == "impossible":
            self.assertIs(is_sure(wheel, low, max(low, wheel[0]), (0, 0), drive), False)
            self.assertIs(shows_late(wheel, low, drive, 0, late_drive(wheel, low, drive, 0)), True)
            return told
        self.assertIs(is_sure(wheel, low, max(low, wheel[0]), (0, 0), drive), True)
        self.assertIsNone(late_drive(wheel, low, drive, told))
        late = late_drive(wheel, low, drive, told + 1)
        self.assertIs(shows_late(wheel, low, drive, told + 1, late), True)
        self.assertIs(shows_late(wheel, low, drive, told, late), False)
        self.assertIs(is_kept(wheel, low, 0, as_drive(late)), False)
        for _ in range(8):
            # The first items as late as may be, and those behind them as early.
            turn = chosen.randrange(len(drive))
            ticks = [tick + told if index <= turn else max(0, tick - told) for index, (tick, _) in enumerate(drive)]
            ticks = list(itertools.accumulate(ticks, max))
            other = [(tick, item[1]) for tick, item in zip(ticks, drive)]
            if all(abs(tick - at) <= told for tick, (at, _) in zip(ticks, drive)):
                self.assertIs(shows_late(wheel, low, drive, told, other), False)
        return "many"

    def test_sixty_items(self):
        chosen = random.Random(28)
        told = set()
        with at_once(60):
            for _ in range(200):
                size = chosen.randrange(10 ** 28, 10 ** 29)
                wheel = (size, chosen.randrange(1, size // chosen.choice([2, 8, 60])))
                slow = 10 ** chosen.randrange(1, 27)
                gaps = [chosen.randrange(1, 4 * slow) for _ in range(chosen.choice([3, 8, 60]))]
                drive = [(tick, chosen.choice([1, 1, 2])) for tick in itertools.accumulate(gaps)]
                low = chosen.choice([0, 1, wheel[1] // slow, 3 * wheel[1] // slow, chosen.randrange(size // slow)])
                told.add(self.check(chosen, wheel, low, drive))
        self.assertEqual(told, {None, "impossible", "many"})

    def test_ticks_of_28_digits(self):
        with at_once():
            drive = slowed(even_drive(60, 10, 1), HUGE // 100)
            wheel = (400 * HUGE, 100 * HUGE)
            # Three steps are one more than fore: the outer two come so near that the wheel goes less than one.
            self.assertEqual(slack(wheel, 2000, drive), (20 * (HUGE // 100) - (100 * HUGE - 1) // 2000 + 1) // 2 - 1)
            self.assertIsNone(late_drive(wheel, 2000, drive, slack(wheel, 2000, drive)))
            late = late_drive(wheel, 2000, drive, slack(wheel, 2000, drive) + 1)
            self.assertIs(shows_late(wheel, 2000, drive, slack(wheel, 2000, drive) + 1, late), True)


if __name__ == "__main__":
    unittest.main()
