"""Points [24] and [25]: the quickest drive that surely loses nothing."""

import itertools
import random
import unittest

from poleslips.drives import is_drive, joined
from poleslips.losses import is_sure
from poleslips.places import final_places, places
from poleslips.quickest import quickest_drive, quickest_tick, settled_tick, steps_by
from support import HUGE, at_once, beginnings, lost_rounds, nearest, pulled_once

WHEEL = (400, 100)
SMALL = [(3, 1), (4, 1), (5, 1), (5, 2), (6, 2), (7, 2), (7, 3), (8, 3)]


def kept_fields(wheel, places_there):
    """All fields in which no round is lost at any of the places."""
    least, greatest = min(places_there), max(places_there)
    return [field for field in range(greatest - wheel[0], least + wheel[0] + 1)
            if all(lost_rounds(wheel, field, place) == 0 for place in places_there)]


def most_steps(wheel, low, place, last):
    """For each tick up to the last one the most steps ahead of all sure drives, looked for among all drives.

    A state is a field and the places that the wheel can have. Whatever is above the round is as a pull of a round.
    """
    states, most = {(0, frozenset([place]))}, []
    for _ in range(last + 1):
        turned = {(field, there) for before, there in states for field in kept_fields(wheel, there)
                  if (field - before) % wheel[1] == 0}
        most.append(max(field for field, _ in turned) // wheel[1])
        states = {
            (field, frozenset(pulled_once(wheel, field, place, pull)
                              for place in there for pull in range(low, max(low, wheel[0]) + 1)))
            for field, there in turned
        }
    return most


def pulled_low(wheel, low, place, last):
    """For each tick the most steps ahead with which the wheel with the pull low is kept, always that far ahead."""
    most = []
    for _ in range(last + 1):
        field = max(field for field in range(place - wheel[0], place + wheel[0])
                    if field % wheel[1] == 0 and nearest(wheel, field, place) == field)
        most.append(field // wheel[1])
        place = pulled_once(wheel, field, place, low)
    return most


def lows_of(wheel):
    """Lows near to fore, to fore without a step, between them and far above."""
    fore, step = wheel[0] // 2, wheel[1]
    some = {1, 2, fore - 1, fore, fore + 1, fore - step - 1, fore - step, fore - step + 1, fore - step + 2,
            fore - step // 2, wheel[0], 10 * wheel[0]}
    return sorted(low for low in some if low >= 1)


class AllDrives(unittest.TestCase):
    """Small wheels, held against all drives, also those with steps back."""

    def test_most_steps(self):
        for wheel in SMALL:
            ends = beginnings(wheel)
            for low in lows_of(wheel):
                for place in sorted({ends[0], -1, 0, ends[-1]}):
                    most = most_steps(wheel, low, place, 4)
                    told = [steps_by(wheel, low, place, tick) for tick in range(5)]
                    self.assertEqual(told, most, (wheel, low, place))
                    self.assertEqual(pulled_low(wheel, low, place, 4), most, (wheel, low, place))


class TickByTick(unittest.TestCase):
    """Held against a wheel that always has the pull low, with the field as far ahead as it is kept."""

    def check(self, wheel, low, place, last):
        most = pulled_low(wheel, low, place, last)
        told = [steps_by(wheel, low, place, tick) for tick in range(last + 1)]
        self.assertEqual(told, most, (wheel, low, place))
        for index in list(range(min(most[-1], 40))) + [most[-1] - 1]:
            if index >= 0:
                tick = next(tick for tick, steps in enumerate(most) if steps > index)
                self.assertEqual(quickest_tick(wheel, low, place, index), tick, (wheel, low, place, index))

    def test_all_small_wheels(self):
        for size in range(3, 14):
            for step in range(1, (size - 1) // 2 + 1):
                wheel = (size, step)
                ends = beginnings(wheel)
                for low in list(range(1, size + 2)) + [5 * size]:
                    for place in sorted({ends[0], ends[0] + 1, 0, ends[-1]}):
                        self.check(wheel, low, place, 30)

    def test_greater_wheels(self):
        chosen = random.Random(24)
        for _ in range(60):
            size = chosen.randrange(20, 500)
            wheel = (size, chosen.randrange(1, (size - 1) // 2 + 1))
            for low in [chosen.choice(lows_of(wheel)), chosen.randrange(1, size // 2), chosen.randrange(1, size // 2)]:
                self.check(wheel, low, chosen.choice(beginnings(wheel)), 120)

    def test_the_wheel_reaches_the_field_seldom(self):
        # With these the wheel goes many ticks ahead of the one in which it reaches the field.
        for wheel, low in [((1000, 499), 3), ((1001, 500), 7), ((997, 498), 251), ((2000, 997), 6), ((1500, 700), 53)]:
            for place in (-(wheel[0] // 2), 0, 17, (wheel[0] - 1) // 2):
                self.check(wheel, low, place, 900)


class GreatNumbers(unittest.TestCase):
    def far_on(self, wheel, low, place, ticks):
        """The steps at the ascending ticks, told by going from tick to tick, with sums alone."""
        fore, step = wheel[0] // 2, wheel[1]
        rows = []
        for tick in range(max(ticks) + 1):
            field = (place + fore) // step * step
            if tick in ticks:
                rows.append(field // step)
            place = min(place + low, field)
        return rows

    def test_wheels_of_29_digits(self):
        chosen = random.Random(29)
        ticks = sorted(chosen.sample(range(3000), 40))
        with at_once(60):
            for _ in range(60):
                size = chosen.randrange(10 ** 28, 10 ** 29)
                wheel = (size, chosen.randrange(1, (size - 1) // 2 + 1))
                if chosen.random() < 0.5:
                    wheel = (size, chosen.randrange(size // 3, (size - 1) // 2 + 1))
                fore = size // 2
                low = chosen.choice([chosen.randrange(1, size), fore - wheel[1] // 2, fore - chosen.randrange(wheel[1]),
                                     fore // 7, 1 + wheel[1] // 50])
                place = chosen.randrange(-fore, fore)
                told = [steps_by(wheel, max(1, low), place, tick) for tick in ticks]
                self.assertEqual(told, self.far_on(wheel, max(1, low), place, set(ticks)), (wheel, low, place))

    def test_one_against_the_other(self):
        chosen = random.Random(25)
        with at_once(60):
            for _ in range(400):
                size = chosen.choice([chosen.randrange(3, 50), chosen.randrange(10 ** 28, 10 ** 29), 10 ** 30 - 1])
                wheel = (size, chosen.randrange(1, (size - 1) // 2 + 1))
                low = chosen.choice([1, chosen.randrange(1, size), size // 2 - wheel[1] // 2, 10 ** 29])
                place = chosen.randrange(-(size // 2), (size + 1) // 2)
                for index in (0, 1, 59, chosen.randrange(10 ** 29), 10 ** 29 - 1, 10 ** 60):
                    tick = quickest_tick(wheel, low, place, index)
                    self.assertGreater(steps_by(wheel, low, place, tick), index)
                    if tick > 0:
                        self.assertLessEqual(steps_by(wheel, low, place, tick - 1), index)
                    if tick < 10 ** 30:
                        steps = steps_by(wheel, low, place, tick)
                        self.assertLessEqual(quickest_tick(wheel, low, place, steps - 1), tick)
                        self.assertGreater(quickest_tick(wheel, low, place, steps), tick)

    def test_all_numbers_times_a_number(self):
        for wheel in SMALL + [WHEEL, (401, 150)]:
            for low in lows_of(wheel):
                for times in (3, 10, HUGE):
                    great = (wheel[0] * times, wheel[1] * times)
                    for place in (-(wheel[0] // 2), 0, 1):
                        self.assertEqual([steps_by(great, low * times, place * times, tick) for tick in range(12)],
                                         [steps_by(wheel, low, place, tick) for tick in range(12)])

    def test_a_pull_that_is_just_less_than_a_step(self):
        # The height above whole steps falls by 1 in each tick, so that the wheel reaches the field most seldom.
        def wheel_of(step, less):
            return 2 * (2 * step - less), step

        for less in (4, 5, 30):
            rows = [steps_by(wheel_of(100, less), 99, place, tick) for place in (0, 7) for tick in range(260)]
            self.assertEqual(rows, [steps for place in (0, 7)
                                    for steps in pulled_low(wheel_of(100, less), 99, place, 259)])
        with at_once():
            for less in (4, 5, 10 ** 20):
                wheel, low = wheel_of(HUGE, less), HUGE - 1
                # Of 2 * HUGE - less a whole step less 1 is gone in each tick, until less than the pull is left.
                for tick in (0, 1, 1000, HUGE - less - 1):
                    self.assertEqual(steps_by(wheel, low, 0, tick), (2 * HUGE - less + tick * low) // HUGE)
                for index in (0, 10, HUGE // 2, 10 ** 29):
                    tick = quickest_tick(wheel, low, 0, index)
                    self.assertGreater(steps_by(wheel, low, 0, tick), index)
                    if tick > 0:
                        self.assertLessEqual(steps_by(wheel, low, 0, tick - 1), index)
                self.assertEqual(sum(turn for _, turn in quickest_drive(wheel, low, 0, 60)), 60)

    def test_far_ticks(self):
        self.assertEqual(steps_by(WHEEL, 20, 0, 10 ** 29), 2 * 10 ** 28 + 2)
        self.assertEqual(steps_by(WHEEL, 170, 0, 10 ** 29), 15 * 10 ** 28 + 2)
        # A wheel far above all others reaches the field in each tick, 200 ahead of it.
        self.assertEqual(steps_by(WHEEL, 10 ** 29, 0, 10 ** 29), 2 * 10 ** 29 + 2)
        self.assertEqual(quickest_tick(WHEEL, 10 ** 29, 0, 2 * 10 ** 29 + 1), 10 ** 29)
        self.assertEqual(quickest_tick(WHEEL, 20, 0, 2 * 10 ** 28 + 1), 10 ** 29)
        self.assertEqual(quickest_tick(WHEEL, 170, 0, 15 * 10 ** 28 + 1), 10 ** 29)
        self.assertEqual(quickest_tick((10 ** 30 - 1, 1), 1, 0, 10 ** 30), 5 * 10 ** 29 + 2)


class Drives(unittest.TestCase):
    def earlier(self, drive):
        """Each drive in which one of the steps comes one tick earlier."""
        for tick, _ in drive:
            if tick > 0:
                yield joined(drive, joined([(tick, -1)], [(tick - 1, 1)]))

    def check(self, wheel, low, place, steps):
        call = wheel, low, place, steps
        drive = quickest_drive(*call)
        self.assertTrue(is_drive(drive))
        self.assertEqual(sum(turn for _, turn in drive), steps)
        self.assertTrue(all(turn >= 1 for _, turn in drive))
        ticks = [tick for tick, turn in drive for _ in range(turn)]
        self.assertEqual(ticks, [quickest_tick(wheel, low, place, index) for index in range(steps)])
        high = max(low, wheel[0])
        self.assertIs(is_sure(wheel, low, high, (place, place), drive), True, call)
        for other in self.earlier(drive):
            self.assertIs(is_sure(wheel, low, high, (place, place), other), False, (call, other))
        self.check_settled(call, drive, high)

    def check_settled(self, call, drive, high):
        wheel, low, place, steps = call
        tick, last = settled_tick(*call), drive[-1][0] if drive else 0
        home = steps * wheel[1]
        ways = wheel, low, high, (place, place), drive
        self.assertGreaterEqual(tick, last)
        self.assertEqual(final_places(*ways), [home])
        self.assertEqual(places(*ways, tick), [(home, home)], call)
        if tick > last:
            self.assertNotEqual(places(*ways, tick - 1), [(home, home)], call)

    def test_small_wheels(self):
        for wheel in SMALL + [WHEEL]:
            ends = beginnings(wheel)
            for low in lows_of(wheel):
                for place in sorted({ends[0], -1, 0, 1, ends[-1]}):
                    for steps in (0, 1, 2, 3, 7, 12):
                        self.check(wheel, low, place, steps)

    def test_from_0_to_60_steps(self):
        for wheel, low, place in [(WHEEL, 20, 0), (WHEEL, 170, -200), ((401, 150), 90, 200), ((7, 3), 2, 3)]:
            for steps in range(61):
                self.check(wheel, low, place, steps)

    def test_great_numbers(self):
        chosen = random.Random(26)
        with at_once(60):
            for _ in range(40):
                size = chosen.randrange(10 ** 28, 10 ** 29)
                wheel = (size, chosen.randrange(1, (size - 1) // 2 + 1))
                low = chosen.choice([1, chosen.randrange(1, size), size // 2 - wheel[1] // 2])
                place = chosen.randrange(-(size // 2), size // 2)
                self.check(wheel, low, place, chosen.choice([1, 5, 60]))

    def test_settled_ahead_of_any_step(self):
        # Without a step the wheel comes to 0 from both sides; with one it may stand ahead of the field at first.
        self.assertEqual([settled_tick(WHEEL, 20, place, 0) for place in (-200, -1, 0, 1, 20, 21, 199)],
                         [10, 1, 0, 1, 1, 2, 10])
        self.assertEqual([settled_tick(WHEEL, 20, place, 1) for place in (-100, 0, 99, 100, 101, 199)],
                         [10, 5, 1, 0, 1, 5])

    def test_kinds_and_new_lists(self):
        told = quickest_drive(wheel=WHEEL, low=20, place=0, steps=4)
        self.assertEqual((type(told), [type(item) for item in told]), (list, [tuple] * 3))
        told.append((99, 1))
        self.assertEqual(quickest_drive(WHEEL, 20, 0, 4), [(0, 2), (5, 1), (10, 1)])
        self.assertIsNot(quickest_drive(WHEEL, 20, 0, 0), quickest_drive(WHEEL, 20, 0, 0))
        for told in (steps_by(wheel=WHEEL, low=20, place=0, tick=4),
                     settled_tick(wheel=WHEEL, low=20, place=0, steps=4),
                     quickest_tick(wheel=WHEEL, low=20, place=0, index=4)):
            self.assertIs(type(told), int)

    def test_equal_ticks_are_one_item(self):
        for steps, wheel, low in itertools.product((2, 5), ((400, 10), (3, 1), (9, 2)), (1, 1000)):
            ticks = [tick for tick, _ in quickest_drive(wheel, low, 0, steps)]
            self.assertEqual(ticks, sorted(set(ticks)))


if __name__ == "__main__":
    unittest.main()
