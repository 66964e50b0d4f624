"""Points [29] and [30]: a stop, and how it gathers all places."""

import itertools
import random
import unittest

from poleslips.drives import even_drive, slowed
from poleslips.places import places
from poleslips.plays import play
from poleslips.stops import home_place, home_steps, play_stop, stop_places
from support import HUGE, SIXTY, SMALL_WHEELS, as_few, at_once, beginnings, nearest, pulled_once

WHEEL = (400, 100)
BACK = [(0, -1), (2, -1), (4, -1), (6, -1)]


def stopped_once(wheel, field, place, pull, stop):
    """The place behind one tick."""
    return max(stop, pulled_once(wheel, field, place, pull))


def stopped_ticks(wheel, pull, place, stop, drive, last):
    """For each tick up to the last one the place."""
    turns, field, found = dict(drive), 0, []
    for tick in range(last + 1):
        field += turns.get(tick, 0) * wheel[1]
        found.append(place)
        place = stopped_once(wheel, field, place, pull, stop)
    return found


def stopped_sets(wheel, low, high, span, stop, drive, last):
    """For each tick up to the last one the set of all places, from anywhere in the span, with all pulls."""
    turns, field, found = dict(drive), 0, []
    now = set(range(span[0], span[1] + 1))
    for tick in range(last + 1):
        field += turns.get(tick, 0) * wheel[1]
        found.append(now)
        now = {stopped_once(wheel, field, place, pull, stop) for place in now for pull in range(low, high + 1)}
    return found


def gathered(wheel, low, high, span, stop, every, most):
    """The tuple (home_steps, home_place), found with all places of the span and all pulls."""
    now, field = set(range(span[0], span[1] + 1)), 0
    for steps in range(most + 1):
        if steps > 0:
            for _ in range(every if steps > 1 else 0):
                now = {stopped_once(wheel, field, place, pull, stop) for place in now for pull in range(low, high + 1)}
            field -= wheel[1]
        homes = {max(stop, nearest(wheel, field, place)) for place in now}
        if len(homes) == 1:
            return steps, homes.pop()
    return None, None


class TickByTick(unittest.TestCase):
    def drives(self, chosen):
        ticks = sorted(chosen.sample(range(14), chosen.randrange(1, 7)))
        turns = chosen.choice([[-1], [-3, -2, -1], [1, 2], [-3, -1, -1, 1, 2]])
        return [(tick, chosen.choice(turns)) for tick in ticks]

    def test_one_wheel(self):
        chosen = random.Random(29)
        met = 0
        for _ in range(4000):
            size = chosen.randrange(3, 25)
            wheel = (size, chosen.randrange(1, (size - 1) // 2 + 1))
            drive = self.drives(chosen)
            # Places at the stop, and little and many rounds above it, and stops at any distance from the field.
            stop = chosen.choice([0, -1, chosen.randrange(-3 * size, 3 * size)])
            place = stop + chosen.choice([0, 0, 1, chosen.randrange(size), chosen.randrange(9 * size)])
            pull = chosen.randrange(6)
            states = stopped_ticks(wheel, pull, place, stop, drive, drive[-1][0])
            told = play_stop(wheel, pull, place, stop, drive)
            self.assertEqual(told, [(tick, states[tick]) for tick, _ in drive], (wheel, pull, place, stop, drive))
            met += stop in states[1:]
        self.assertGreater(met, 500)

    def test_one_wheel_in_short_drives(self):
        drives = [[]] + [[(tick, turn)] for tick in (0, 2) for turn in (-2, -1, 1)]
        drives += [[(0, one), (3, other), (7, -1)] for one in (-2, -1, 1) for other in (-1, 1, 2)]
        for wheel in SMALL_WHEELS:
            for pull, drive, stop in itertools.product((0, 1, 2, 9), drives, (-1, 0, 2)):
                for place in range(stop, stop + 2 * wheel[0] + 1):
                    states = stopped_ticks(wheel, pull, place, stop, drive, 7)
                    self.assertEqual(play_stop(wheel, pull, place, stop, drive),
                                     [(tick, states[tick]) for tick, _ in drive])

    def test_all_places_and_pulls(self):
        chosen = random.Random(30)
        several = 0
        for _ in range(900):
            size = chosen.randrange(3, 20)
            wheel = (size, chosen.randrange(1, (size - 1) // 2 + 1))
            drive = self.drives(chosen)
            stop = chosen.choice([0, -1, chosen.randrange(-2 * size, 2 * size)])
            least = stop + chosen.choice([0, 0, 1, chosen.randrange(3 * size)])
            span = (least, least + chosen.choice([0, 1, chosen.randrange(size), chosen.randrange(5 * size)]))
            low = chosen.randrange(4)
            call = wheel, low, low + chosen.randrange(4), span, stop, drive
            last = drive[-1][0] + 5
            sets = stopped_sets(*call, last)
            for tick in range(last + 1):
                told = stop_places(*call, tick)
                self.assertEqual(told, as_few(sets[tick]), (call, tick))
                several += len(told) > 1
        self.assertGreater(several, 1000)

    def test_home(self):
        chosen = random.Random(31)
        told = set()
        for _ in range(700):
            size = chosen.randrange(3, 16)
            wheel = (size, chosen.randrange(1, (size - 1) // 2 + 1))
            stop = chosen.choice([0, -1, chosen.randrange(-2 * size, 2 * size)])
            least = stop + chosen.choice([0, 0, 1, chosen.randrange(size)])
            span = (least, least + chosen.choice([0, 1, chosen.randrange(size), chosen.randrange(4 * size)]))
            low = chosen.randrange(1, 4)
            call = wheel, low, low + chosen.randrange(3), span, stop, chosen.randrange(1, 7)
            for most in (0, 1, 12, 30):
                steps, home = gathered(*call, most)
                self.assertEqual((home_steps(*call, most), home_place(*call, most)), (steps, home), (call, most))
                told.add(steps)
        self.assertLessEqual({None, 0, 1, 2, 3, 4, 5, 9}, told)

    def test_home_of_all_small_numbers(self):
        for wheel in [(3, 1), (4, 1), (5, 2), (7, 2)]:
            for low, high, every, stop in itertools.product((1, 2), (2, 9), (1, 2, 3), (-1, 0, 2)):
                for span in [(stop, stop), (stop, stop + 2), (stop + 1, stop + wheel[0]), (stop, stop + 3 * wheel[0])]:
                    call = wheel, low, high, span, stop, every, 14
                    self.assertEqual((home_steps(*call), home_place(*call)), gathered(*call), call)


class Texts(unittest.TestCase):
    def test_an_aim_below_the_stop(self):
        # The wheel presses against the stop with its aim 100 below, and goes away once the aim is above.
        self.assertEqual(play_stop(WHEEL, 50, 30, 0, [(0, -1), (1, 1), (2, 1), (4, 1)]),
                         [(0, 30), (1, 0), (2, 0), (4, 100)])
        self.assertEqual(play_stop(WHEEL, 20, 30, 0, [(0, -1), (1, -1), (2, 1), (3, 3)]),
                         [(0, 30), (1, 10), (2, 30), (3, 10)])
        # It stays stopped although its pull is great: the aim is below for ever.
        self.assertEqual(stop_places(WHEEL, 0, 400, (0, 0), 0, [(0, -1)], 10 ** 29), [(0, 0)])
        self.assertEqual(stop_places(WHEEL, 1, 400, (0, 99), 0, [(0, -1)], 10 ** 29), [(0, 0)])
        self.assertEqual(stop_places(WHEEL, 1, 400, (0, 100), 0, [(0, -1)], 10 ** 29), [(0, 0), (300, 300)])

    def test_equally_near_aims(self):
        # At the stop -200 and 200 are equally near in the field 200: the greater one is taken.
        self.assertEqual(play_stop(WHEEL, 50, 0, 0, [(0, -2), (1, 1)]), [(0, 0), (1, 50)])
        self.assertEqual(play_stop(WHEEL, 50, 1, 0, [(0, -2), (1, 1)]), [(0, 1), (1, 51)])
        self.assertEqual(play_stop((401, 100), 50, 0, 0, [(0, -2), (1, 1)]), [(0, 0), (1, 0)])
        self.assertEqual(play_stop((401, 100), 50, 1, 0, [(0, -2), (1, 1)]), [(0, 1), (1, 51)])

    def test_many_rounds_above_the_field(self):
        self.assertEqual(play_stop(WHEEL, 50, 4010, 0, [(0, 1), (1, 1), (9, -1)]), [(0, 4010), (1, 4060), (9, 4200)])
        self.assertEqual(play_stop(WHEEL, 50, -3990, -4000, [(0, -1), (1, 1)]), [(0, -3990), (1, -4000)])
        self.assertEqual(play_stop(WHEEL, 50, 10 ** 29, 10 ** 29 - 3, [(0, -1), (1, 1)]),
                         [(0, 10 ** 29), (1, 10 ** 29 - 3)])

    def test_stops_far_below_change_nothing(self):
        chosen = random.Random(32)
        for wheel in SMALL_WHEELS + [WHEEL]:
            ends = beginnings(wheel)
            for drive in ([], BACK, SIXTY, even_drive(60, 2, -1), [(0, 5), (9, -3), (10, 1)]):
                for stop in (-10 ** 9, -HUGE):
                    low = chosen.randrange(wheel[0])
                    high = low + chosen.randrange(wheel[0])
                    start = tuple(sorted(chosen.choices(ends, k=2)))
                    self.assertEqual(play_stop(wheel, low, start[0], stop, drive),
                                     [(tick, place) for tick, place, _ in play(wheel, low, start[0], drive)])
                    for tick in (0, 1, 5, 60, 177, HUGE):
                        self.assertEqual(stop_places(wheel, low, high, start, stop, drive, tick),
                                         places(wheel, low, high, start, drive, tick))

    def test_most_0_and_400(self):
        self.assertEqual([home_steps(WHEEL, 50, 50, span, 0, 10, 0) for span in ((0, 199), (0, 200), (7, 7))],
                         [0, None, 0])
        self.assertEqual([home_place(WHEEL, 50, 50, span, 0, 10, 0) for span in ((0, 199), (0, 200), (200, 500))],
                         [0, None, 400])
        # A wheel that steps a hundredth of a round gathers a round in about a hundred steps.
        for high in (50, 400):
            steps = home_steps((400, 4), 50, high, (0, 1000), 0, 10, 400)
            self.assertEqual(home_steps((400, 4), 50, high, (0, 1000), 0, 10, steps), steps)
            self.assertIsNone(home_steps((400, 4), 50, high, (0, 1000), 0, 10, steps - 1))
            self.assertIsNone(home_place((400, 4), 50, high, (0, 1000), 0, 10, steps - 1))
            self.assertEqual(home_place((400, 4), 50, high, (0, 1000), 0, 10, 400), 400 - 4 * steps % 400)
        self.assertIsNone(home_steps((400, 1), 50, 50, (0, 1000), 0, 10, 400))

    def test_the_place_is_where_all_come_to_stand(self):
        for wheel, low, high, span, stop, every in [
            (WHEEL, 50, 50, (0, 1000), 0, 10), (WHEEL, 7, 30, (0, 700), 0, 20), ((7, 3), 1, 2, (-5, 30), -5, 5),
            ((9, 2), 2, 2, (4, 40), 4, 9),
        ]:
            steps = home_steps(wheel, low, high, span, stop, every, 60)
            home = home_place(wheel, low, high, span, stop, every, 60)
            drive = even_drive(steps, every, -1)
            self.assertEqual(stop_places(wheel, low, high, span, stop, drive, HUGE), [(home, home)])
            fewer = even_drive(steps - 1, every, -1)
            self.assertNotEqual(len(stop_places(wheel, low, high, span, stop, fewer, HUGE)), 1)

    def test_kinds_names_and_new_lists(self):
        told = play_stop(wheel=WHEEL, pull=50, place=0, stop=0, drive=BACK)
        self.assertEqual((type(told), [type(row) for row in told]), (list, [tuple] * 4))
        told.clear()
        self.assertEqual(play_stop(WHEEL, 50, 0, 0, BACK), [(0, 0), (2, 0), (4, 100), (6, 100)])
        told = stop_places(wheel=WHEEL, low=20, high=50, span=(90, 110), stop=0, drive=[(0, -1)], tick=1)
        self.assertEqual(told, [(40, 79), (120, 160)])
        told.append((7, 7))
        self.assertEqual(stop_places(WHEEL, 20, 50, (90, 110), 0, [(0, -1)], 1), [(40, 79), (120, 160)])
        call = {"wheel": WHEEL, "low": 50, "high": 50, "span": (0, 300), "stop": 0, "every": 10, "most": 60}
        self.assertEqual((home_steps(**call), home_place(**call)), (2, 200))


class GreatNumbers(unittest.TestCase):
    def test_all_numbers_times_a_number(self):
        with at_once():
            wheel = (400 * HUGE, 100 * HUGE)
            for stop in (0, -1000):
                self.assertEqual(play_stop(wheel, 50 * HUGE, 0, stop * HUGE, BACK),
                                 [(tick, place * HUGE) for tick, place in play_stop(WHEEL, 50, 0, stop, BACK)])
                self.assertEqual(play_stop(wheel, 50, 0, stop * HUGE, slowed(BACK, HUGE)),
                                 [(tick * HUGE, place * HUGE) for tick, place in play_stop(WHEEL, 50, 0, stop, BACK)])
            for span in ((0, 100), (0, 300), (0, 1000), (0, 40000)):
                call = WHEEL, 50, 60, span, 0, 10, 400
                ends = (span[0] * HUGE, span[1] * HUGE)
                great = wheel, 50 * HUGE, 60 * HUGE, ends, 0, 10, 400
                slow = wheel, 50, 60, ends, 0, 10 * HUGE, 400
                for other in (great, slow):
                    self.assertEqual(home_steps(*other), home_steps(*call))
                    home = home_place(*call)
                    self.assertEqual(home_place(*other), None if home is None else home * HUGE)

    def test_spans_of_100_rounds(self):
        chosen = random.Random(100)
        with at_once(60):
            for _ in range(12):
                size = chosen.randrange(10 ** 25, 10 ** 26)
                wheel = (size, chosen.randrange(1, size // chosen.choice([3, 30])))
                slow = 10 ** chosen.randrange(2, 24)
                low = chosen.randrange(1, size // slow // 20)
                high = low + chosen.randrange(size // slow // 10)
                stop = chosen.choice([0, chosen.randrange(-10 ** 26, 10 ** 26)])
                span = (stop, stop + 100 * size)
                gaps = [chosen.randrange(1, 4 * slow) for _ in range(59)]
                drive = [(tick, chosen.choice([-2, -1, -1, 1])) for tick in itertools.accumulate(gaps)]
                told = stop_places(wheel, low, high, span, stop, drive, drive[-1][0] + slow)
                self.assertGreaterEqual(told[0][0], stop)
                self.assertGreater(len(told), 90)
                for one, other in itertools.pairwise(told):
                    self.assertLess(one[1] + 1, other[0])
                self.inside(chosen, (wheel, low, high, span, stop, drive), drive[-1][0] + slow, told)
                home_steps(wheel, low, high, span, stop, slow, 400)

    def inside(self, chosen, call, tick, told):
        """Wheels with the same pull in each tick are within the stretches."""
        wheel, low, high, span, stop, drive = call
        for place in (span[0], span[1], chosen.randrange(span[0], span[1]), chosen.randrange(span[0], span[1])):
            for pull in (low, high, (low + high) // 2):
                there = play_stop(wheel, pull, place, stop, drive + [(tick, 1)])[-1][1]
                self.assertTrue(any(least <= there <= greatest for least, greatest in told))

    def test_gaps_of_21_digits(self):
        with at_once():
            for wheel, span in (((400, 100), (0, 1000)), ((7, 3), (-3, 500))):
                for every in (10 ** 20, 10 ** 29):
                    call = wheel, 1, 5, span, span[0]
                    # With so much time the wheel always stands ahead of the next step.
                    self.assertEqual(home_steps(*call, every, 400), home_steps(*call, wheel[0], 400))
                    self.assertEqual(home_place(*call, every, 400), home_place(*call, wheel[0], 400))
                    self.assertIsNotNone(home_steps(*call, every, 400))

    def test_slow_wheels_in_many_steps(self):
        # The wheel is hardly pulled between two steps, so that no places meet for long.
        with at_once():
            wheel = (10 ** 26, 10)
            self.assertIsNone(home_steps(wheel, 1, 1, (0, 100 * 10 ** 26), 0, 1, 400))
            self.assertIsNone(home_place(wheel, 1, 2, (0, 100 * 10 ** 26), 0, 1, 400))
            self.assertEqual(home_steps(wheel, 1, 2, (0, 10 ** 25), 0, 1, 400), 0)


if __name__ == "__main__":
    unittest.main()
