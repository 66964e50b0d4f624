"""Points [27] and [28]: what sightings of the wheel tell."""

import itertools
import random
import unittest

from poleslips.drives import even_drive
from poleslips.places import places
from poleslips.sightings import first_misfit, fits, places_seen, shows_sights, sight_paper
from support import (
    HUGE, NO_NUMBERS, SIXTY, SMALL_WHEELS, WRONG_LOADS, as_few, at_once, beginnings, pulls_of, seen_ways, sources, walk,
    with_pulls,
)
from test_papers import fine

WHEEL = (400, 100)


def last_of(sightings):
    return sightings[-1][0] if sightings else 0


class AllWays(unittest.TestCase):
    """Small wheels, held against all ways, tick by tick."""

    def check(self, wheel, low, high, start, drive, sightings):
        call = wheel, low, high, start, drive, sightings
        seen = last_of(sightings)
        last = max([seen] + [tick for tick, _ in drive]) + 3
        misfit, sets = seen_ways(*call, last)
        self.assertEqual((fits(*call), first_misfit(*call)), (misfit is None, misfit), call)
        for tick in range(last + 1):
            self.assertEqual(places_seen(*call, tick), as_few(sets[tick]), (call, tick))
        paper = sight_paper(*call)
        if misfit is not None:
            self.assertIsNone(paper, call)
            return misfit
        fine(self, low, high, start, seen, paper)
        begin, loads = paper
        states = with_pulls(wheel, pulls_of(loads), begin, drive, seen)
        for tick, least, greatest in sightings:
            self.assertTrue(least <= states[tick][1] <= greatest, (call, paper))
        self.assertIs(shows_sights(*call, paper), True, (call, paper))
        self.assertEqual(sight_paper(*call), paper)
        return misfit

    def test_short(self):
        drives = [[]] + [[(tick, turn)] for tick in (0, 2) for turn in (-3, -1, 1, 2)] + [[(0, 1), (3, 2)]]
        seen = [(tick, place, place + wide)
                for tick in (0, 1, 2, 4) for place in (-3, -1, 0, 1, 3) for wide in (0, 1, 4)]
        lists = [[]] + [[one] for one in seen] + [[one, two] for one, two in itertools.combinations(seen, 2)
                                                  if one[0] < two[0]]
        chosen = random.Random(27)
        told = set()
        for wheel in SMALL_WHEELS:
            least, greatest = beginnings(wheel)[0], beginnings(wheel)[-1]
            for low, high in ((0, 0), (1, 1), (0, 1), (1, 2), (0, 9)):
                for start in ((0, 0), (-1, 1), (least, greatest)):
                    for drive in drives:
                        for sightings in chosen.sample(lists, 4):
                            told.add(self.check(wheel, low, high, start, drive, sightings))
        self.assertEqual(told, {None, 0, 1})

    def test_longer(self):
        chosen = random.Random(28)
        told = []
        for _ in range(900):
            size = chosen.randrange(3, 20)
            wheel = (size, chosen.randrange(1, (size - 1) // 2 + 1))
            drive = [(tick, chosen.choice([-3, -2, -1, 1, 1, 2]))
                     for tick in sorted(chosen.sample(range(12), chosen.randrange(5)))]
            low = chosen.randrange(3)
            high = low + chosen.randrange(4)
            start = tuple(sorted(chosen.choices(beginnings(wheel), k=2)))
            # Sightings near to what some way does, so that many of them fit.
            place, many = chosen.randrange(start[0], start[1] + 1), chosen.randrange(6)
            states = with_pulls(wheel, [chosen.randrange(low, high + 1) for _ in range(20)], place, drive, 16)
            sightings = []
            for tick in sorted(chosen.sample(range(17), many)):
                least = states[tick][1] + chosen.choice([0, 0, -1, -3, 1])
                sightings.append((tick, least, least + chosen.choice([0, 1, 2, 9])))
            told.append(self.check(wheel, low, high, start, drive, sightings))
        self.assertGreater(told.count(None), 200)
        self.assertLessEqual({0, 1, 2}, set(told))


class Texts(unittest.TestCase):
    def test_no_sightings(self):
        for drive in ([], [(0, 2), (4, 1)], SIXTY):
            call = WHEEL, 20, 30, (-7, 12), drive
            self.assertEqual((fits(*call, []), first_misfit(*call, [])), (True, None))
            for tick in (0, 4, 5, 177, HUGE):
                self.assertEqual(places_seen(*call, [], tick), places(*call, tick))
            paper = sight_paper(*call, [])
            fine(self, 20, 30, (-7, 12), 0, paper)
            self.assertIs(shows_sights(*call, [], paper), True)
            for value, right in [((-7, []), True), ((12, [(20, 1)]), True), ((13, []), False), ((0, [(31, 1)]), False)]:
                self.assertIs(shows_sights(*call, [], value), right)

    def test_ticks_ahead_of_between_at_and_behind(self):
        call = WHEEL, 10, 20, (0, 0), [(0, 1)], [(2, 30, 35), (4, 65, 80)]
        self.assertEqual([places_seen(*call, tick) for tick in (0, 1, 2, 3, 4, 5, 7, HUGE)], [
            [(0, 0)], [(10, 20)], [(30, 35)], [(45, 55)], [(65, 75)], [(75, 95)], [(95, 100)], [(100, 100)],
        ])

    def test_a_sighting_tells_where_the_wheel_began(self):
        call = WHEEL, 10, 20, (-200, 199), []
        self.assertEqual(places_seen(*call, [(3, 5, 7)], 0), [(35, 67)])
        self.assertEqual(places_seen(*call, [(3, 0, 0)], 0), [(-60, 60)])
        self.assertEqual(places_seen(*call, [(3, -170, -170)], 0), [(-200, -200)])
        self.assertEqual(places_seen(*call, [(3, -171, -171)], 0), [])
        self.assertEqual(places_seen(*call, [(3, -171, -170), (5, -500, 500)], 4), [(-160, -150)])

    def test_one_of_two_aims(self):
        # The wheel is at 300 in the end, or at -100: the sighting tells which one it was.
        call = WHEEL, 20, 30, (0, 0), [(0, 2), (4, 1)]
        self.assertEqual(places(*call, 40), [(-100, -100), (300, 300)])
        self.assertEqual(places_seen(*call, [(30, 0, 400)], 4), [(100, 120)])
        self.assertEqual(places_seen(*call, [(30, -400, 0)], 4), [(80, 99)])
        self.assertEqual(places_seen(*call, [(4, 80, 99)], 40), [(-100, -100)])
        self.assertEqual(places_seen(*call, [(30, 0, 0)], 4), [])
        self.assertEqual(places_seen(*call, [(5, -400, 400)], 5), [(50, 79), (120, 150)])
        self.assertEqual(places_seen(*call, [(5, 79, 120)], 4), [(99, 100)])
        self.assertEqual(first_misfit(*call, [(4, 99, 100), (5, 80, 119)]), 1)

    def test_wide_sightings(self):
        call = (3, 1), 0, 1, (-1, 1), [(0, 1), (5, HUGE)]
        wide = [(tick, -HUGE, HUGE) for tick in range(60)]
        with at_once():
            self.assertIs(fits(*call, wide), True)
            self.assertEqual(places_seen(*call, wide, 3), places(*call, 3))
            self.assertEqual(places_seen(*call, [(9, 0, 10 ** 30)], 9), [(0, places(*call, 9)[-1][1])])

    def test_kinds_and_new_lists(self):
        call = {"wheel": WHEEL, "low": 10, "high": 20, "start": (0, 0), "drive": [(0, 1)], "sightings": [(2, 30, 35)]}
        self.assertIs(fits(**call), True)
        self.assertIsNone(first_misfit(**call))
        self.assertIs(type(first_misfit(**dict(call, sightings=[(2, 90, 95)]))), int)
        self.assertEqual(first_misfit(**dict(call, sightings=[(2, 90, 95)])), 0)
        told = places_seen(**call, tick=1)
        self.assertEqual(told, [(10, 20)])
        told.append((1, 2))
        self.assertEqual(places_seen(**call, tick=1), [(10, 20)])
        one, other = sight_paper(**call), sight_paper(**call)
        self.assertEqual(one, other)
        self.assertIsNot(one[1], other[1])
        kept = list(one[1])
        one[1].clear()
        self.assertEqual((other[1], sight_paper(**call)[1]), (kept, kept))
        self.assertIs(shows_sights(**call, value=other), True)


class Shows(unittest.TestCase):
    def test_papers_changed_in_one_thing(self):
        call = WHEEL, 10, 20, (-3, 4), [(0, 1)], [(2, 30, 35), (4, 75, 80)]
        good = (0, [(20, 1), (15, 1), (20, 2)])
        self.assertIs(shows_sights(*call, good), True)
        loads = good[1]
        wrong = [
            (1, loads), (-4, loads), (5, loads), (True, loads), (None, loads), (0.0, loads), (0, tuple(loads)), (0, []),
            (0, loads[:2]), (0, loads[1:]), (0, loads[:2] + [(20, 1)]), (0, loads[:2] + [(21, 2)]),
            (0, loads + [(9, 1)]), (0, loads + [(21, 1)]), (0, loads + [(20, 0)]), (0, loads + [None]),
            (0, [(20, 1), (16, 1), (20, 2)]), (0, [(20, 1), (15, 1), (15, 2)]), (0, [(10, 1), (15, 1), (20, 2)]),
            list(good), good + (1,), good[:1], (0, [(15, 1)] * 401), (0, [[20, 1], (15, 1), (20, 2)]),
            (0, [(20, True), (15, 1), (20, 2)]), (loads, 0), (0, None),
        ]
        for value in wrong + NO_NUMBERS + [[], "paper", WHEEL]:
            self.assertIs(shows_sights(*call, value), False, value)
        for value in [(0, loads + [(10, HUGE)]), (0, [(20, 1), (15, 1), (20, 1), (20, 1), (10, 1)]),
                      (-3, [(20, 1), (18, 1), (20, 2)])]:
            self.assertIs(shows_sights(*call, value), True, value)
        for value, _ in WRONG_LOADS:
            self.assertIs(shows_sights(WHEEL, 0, HUGE, (0, 0), [], [], (0, value)), False)

    def test_all_small_values(self):
        lists = [[]] + [[one] for one in itertools.product(range(3), (1, 2, 4))]
        lists += [list(two) for two in itertools.product(itertools.product(range(3), (1, 2)), repeat=2)]
        right = set()
        for wheel, low, high, start, drive, seen in [
            ((5, 2), 1, 2, (-1, 1), [(0, 1)], [(1, 0, 1), (3, 2, 3)]), ((9, 2), 0, 1, (0, 2), [(1, 1)], [(2, 0, 1)]),
            ((6, 1), 0, 2, (-3, 2), [], [(0, -2, 2)]), ((7, 3), 1, 1, (0, 0), [(2, 1)], [(0, 0, 0), (4, -9, 2)]),
        ]:
            for place in range(-4, 4):
                for some in lists:
                    pulls = pulls_of(some)
                    paper = start[0] <= place <= start[1] and all(low <= pull <= high for pull in pulls)
                    states = with_pulls(wheel, pulls, place, drive, last_of(seen)) if paper else []
                    wanted = paper and len(pulls) >= last_of(seen) and all(
                        least <= states[tick][1] <= greatest for tick, least, greatest in seen)
                    told = shows_sights(wheel, low, high, start, drive, seen, (place, some))
                    self.assertIs(told, wanted, (wheel, drive, seen, place, some))
                    right.add(wanted)
        self.assertEqual(right, {True, False})


class GreatNumbers(unittest.TestCase):
    """60 sightings and numbers of 27 digits, at once, held against a search backwards."""

    def inside(self, call, sightings, tick, place):
        """Whether some way with all sightings has the place at the tick: looked for ahead and backwards from there."""
        wheel, low, high, start, drive = call
        turns = dict(drive)
        seen = {at: (least, greatest) for at, least, greatest in sightings}
        if tick in seen and not seen[tick][0] <= place <= seen[tick][1]:
            return False
        events = sorted({0, tick} | set(turns) | set(seen), reverse=True)
        spans, now = [(place, place)], tick
        for at in [event for event in events if event < tick]:
            field = sum(turn for then, turn in drive if then <= at) * wheel[1]
            ticks = now - at
            spans = [one for span in spans for one in sources(wheel, field, span, low * ticks, high * ticks, False)]
            if at in seen:
                spans = [(max(least, seen[at][0]), min(greatest, seen[at][1])) for least, greatest in spans]
            spans, now = sorted({span for span in spans if span[0] <= span[1]}), at
        if not any(least <= start[1] and greatest >= start[0] for least, greatest in spans):
            return False
        # From the place on no sighting misfits: the drive is told anew from there.
        field = sum(turn for then, turn in drive if then <= tick) * wheel[1]
        return self.goes_on(call, [one for one in sightings if one[0] > tick], tick, field, place)

    def goes_on(self, call, later, tick, field, place):
        """Whether a wheel at the place can have all later sightings, with its places kept as spans for each aim."""
        wheel, low, high, _, drive = call
        spans, now = [(place, place)], tick
        turns = {at: turn for at, turn in drive if at > tick}
        seen = {at: (least, greatest) for at, least, greatest in later}
        for at in sorted(set(turns) | set(seen)):
            if not later or at > later[-1][0]:
                break
            short, long = low * (at - now), high * (at - now)
            spans = [one for span in spans for one in self.moved(wheel, field, span, short, long)]
            if at in seen:
                spans = [(max(least, seen[at][0]), min(greatest, seen[at][1])) for least, greatest in spans]
                spans = [span for span in spans if span[0] <= span[1]]
            field += turns.get(at, 0) * wheel[1]
            spans, now = sorted(set(spans)), at
        return bool(spans)

    def moved(self, wheel, field, span, short, long):
        fore, back, found = wheel[0] // 2, (wheel[0] - 1) // 2, []
        least = span[0]
        while least <= span[1]:
            aim = field - (field - least + back) // wheel[0] * wheel[0]
            greatest = min(span[1], aim + back)
            assert aim - fore <= least <= greatest
            ends = sorted({least, greatest} | ({aim} if least < aim < greatest else set()))
            to = [self.one(aim, end, way) for end in ends for way in (short, long)]
            found.append((min(to), max(to)))
            least = greatest + 1
        return found

    def one(self, aim, place, way):
        return aim if abs(aim - place) <= way else place + (way if aim > place else -way)

    def test_sixty_items_and_sightings(self):
        chosen = random.Random(60)
        many, misfits = 0, 0
        with at_once(100):
            for _ in range(60):
                size = chosen.randrange(10 ** 26, 10 ** 27)
                wheel = (size, chosen.randrange(1, size // 3))
                slow = 10 ** chosen.randrange(2, 25)
                ticks = list(itertools.accumulate(chosen.randrange(1, 4 * slow) for _ in range(60)))
                drive = [(tick, chosen.choice([-2, -1, 1, 2])) for tick in ticks][:chosen.choice([3, 10, 60])]
                low = chosen.randrange(size // slow // 20)
                high = low + chosen.randrange(1, size // slow // 10)
                start = tuple(sorted(chosen.randrange(-(size // 3), size // 3) for _ in range(2)))
                call = wheel, low, high, start, drive
                sightings = self.near(chosen, call, ticks)
                misfits += self.check(chosen, call, sightings)
                many += len(sightings) == 60
        self.assertGreater(many, 20)
        self.assertTrue(5 < misfits < 55, misfits)

    def near(self, chosen, call, ticks):
        """Sightings around what one way does; some of them off."""
        wheel, low, high, start, drive = call
        loads = [(chosen.randrange(low, high + 1), max(1, ticks[-1] // 30)) for _ in range(40)]
        place = chosen.randrange(start[0], start[1] + 1)
        sightings = []
        wide = wheel[0] // chosen.choice([10, 1000])
        for tick in chosen.choice([ticks, ticks[5:12], [tick + 1 for tick in ticks]]):
            there = walk(wheel, loads, place, drive, tick)[0]
            sightings.append((tick, there - chosen.randrange(wide), there + chosen.randrange(wide)))
        if chosen.random() < 0.3:
            tick, least, greatest = sightings[-1]
            sightings[-1] = tick, least + 3 * wide, greatest + 3 * wide
        return sightings

    def check(self, chosen, call, sightings):
        wheel, low, high, start, drive = call
        misfit = first_misfit(*call, sightings)
        self.assertIs(fits(*call, sightings), misfit is None)
        paper = sight_paper(*call, sightings)
        if misfit is None:
            fine(self, low, high, start, sightings[-1][0], paper)
            for tick, least, greatest in sightings:
                self.assertTrue(least <= walk(wheel, paper[1], paper[0], drive, tick)[0] <= greatest)
            self.assertIs(shows_sights(*call, sightings, paper), True)
        else:
            self.assertIsNone(paper)
            self.assertIs(fits(*call, sightings[:misfit]), True)
            tick, least, greatest = sightings[misfit]
            for place in (least, greatest, (least + greatest) // 2):
                self.assertIs(self.inside(call, sightings[:misfit], tick, place), False)
        for tick in (0, sightings[0][0], sightings[len(sightings) // 2][0] + 1, sightings[-1][0], 2 * sightings[-1][0]):
            told = places_seen(*call, sightings, tick)
            self.assertIs(told == [], misfit is not None)
            for least, greatest in told[:4]:
                for place, wanted in ((least - 1, False), (least, True), (greatest, True), (greatest + 1, False)):
                    if tick > 0 or start[0] <= place <= start[1]:
                        self.assertIs(self.inside(call, sightings, tick, place), wanted, (call, sightings, tick))
        return misfit is not None

    def test_sixty_sightings_of_equal_steps(self):
        drive = even_drive(60, HUGE, 1)
        wheel = (400 * HUGE, 100 * HUGE)
        with at_once():
            seen = [(tick, 100 * tick - HUGE, 100 * tick + HUGE) for tick, _ in drive]
            call = wheel, 100, 101, (0, 0), drive
            self.assertEqual(first_misfit(*call, seen), None)
            paper = sight_paper(*call, seen)
            fine(self, 100, 101, (0, 0), 59 * HUGE, paper)
            self.assertIs(shows_sights(*call, seen, paper), True)
            self.assertEqual(first_misfit(wheel, 98, 99, (0, 0), drive, seen), 2)


if __name__ == "__main__":
    unittest.main()
