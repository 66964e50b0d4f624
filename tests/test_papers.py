"""Points [22] and [23]: loads lists, and papers that show what some way does."""

import itertools
import random
import unittest

from poleslips.drives import even_drive, joined, slowed
from poleslips.losses import can_keep, is_sure, kept_span
from poleslips.papers import (
    keep_paper, place_paper, play_loads, shows_keep, shows_place, shows_slip, slip_paper,
)
from poleslips.places import places
from poleslips.plays import play, state_at
from support import (
    HUGE, LOADS_400, NO_NUMBERS, SIXTY, SMALL_WHEELS, WRONG_LOADS, all_ways, at_once, beginnings, pulls_of, walk,
    with_pulls,
)

WHEEL = (400, 100)
DRIVE = [(0, 2), (4, 1)]
CALL = WHEEL, 20, 30, (0, 0), DRIVE


def last_of(drive):
    return drive[-1][0] if drive else 0


def rows_of(states, drive):
    """What `play_loads` tells, from the states of all ticks."""
    return [(tick, states[tick][1], states[tick][2]) for tick, _ in drive]


class Loads(unittest.TestCase):
    """play_loads, held against a wheel that is pulled tick by tick, with the pull 0 behind the list."""

    def check(self, wheel, loads, place, drive):
        states = with_pulls(wheel, pulls_of(loads), place, drive, last_of(drive))
        self.assertEqual(play_loads(wheel, loads, place, drive), rows_of(states, drive), (wheel, loads, place, drive))

    def test_short_lists(self):
        loads = [(pull, ticks) for pull in (0, 1, 2, 9) for ticks in (1, 2, 5)]
        lists = [[]] + [[one] for one in loads] + [list(two) for two in itertools.product(loads, repeat=2)]
        drives = [[], [(0, 1)], [(1, -2), (2, 3)], [(0, 2), (3, 1), (6, 1)], [(0, 1), (1, 1), (2, 1), (9, -1)]]
        for wheel in SMALL_WHEELS:
            places_of = beginnings(wheel)
            for place in (places_of[0], 0, places_of[-1]):
                for drive in drives:
                    for some in lists:
                        self.check(wheel, some, place, drive)

    def test_longer_lists(self):
        chosen = random.Random(22)
        for _ in range(3000):
            size = chosen.randrange(3, 30)
            wheel = (size, chosen.randrange(1, (size - 1) // 2 + 1))
            loads = [(chosen.randrange(6), chosen.randrange(1, 5)) for _ in range(chosen.randrange(9))]
            ticks = sorted(chosen.sample(range(30), chosen.randrange(1, 8)))
            drive = [(tick, chosen.choice([-3, -1, 1, 2])) for tick in ticks]
            self.check(wheel, loads, chosen.choice(beginnings(wheel)), drive)

    def test_the_empty_list_pulls_nothing(self):
        for drive in ([], DRIVE, SIXTY, [(0, 1), (HUGE, 5)]):
            for place in (-200, 0, 199):
                self.assertEqual(play_loads(WHEEL, [], place, drive), play(WHEEL, 0, place, drive))

    def test_behind_the_list_the_wheel_stays(self):
        self.assertEqual(play_loads(WHEEL, [(20, 3)], 0, [(0, 2), (3, 1), (4, 1), (HUGE, 1)]),
                         [(0, 0, 0), (3, 60, 1), (4, 60, 1), (HUGE, 60, 1)])
        self.assertEqual(play_loads(WHEEL, [(20, 3), (0, 1), (20, 1)], 0, even_drive(4, 2, 1)),
                         [(0, 0, 0), (2, 40, 0), (4, 60, 1), (6, 40, 1)])

    def test_a_list_of_400_tuples(self):
        drive = [(13 * number, 1 + number % 2) for number in range(60)]
        self.check((23, 7), LOADS_400, -5, drive)
        self.check(WHEEL, LOADS_400, 199, drive)
        with at_once():
            loads = [(pull * HUGE, ticks * HUGE) for pull, ticks in LOADS_400]
            self.assertEqual(len(play_loads((10 ** 29, 10 ** 28), loads, 5, slowed(drive, HUGE))), 60)

    def test_one_load_is_one_pull(self):
        for ticks in (200, HUGE, 10 ** 29):
            for pull in (0, 7, 20, HUGE):
                for drive in ([], DRIVE, SIXTY):
                    self.assertEqual(play_loads(WHEEL, [(pull, ticks)], -7, drive), play(WHEEL, pull, -7, drive))

    def test_numbers_of_29_digits(self):
        # All times a number tells the same times this number.
        loads = [(20, 4), (30, 1), (0, 2), (7, 5)]
        drive = [(0, 2), (4, 1), (6, 1), (9, -3), (11, 2)]
        told = play_loads(WHEEL, loads, 100, drive)
        with at_once():
            wheel = (400 * HUGE, 100 * HUGE)
            self.assertEqual(play_loads(wheel, [(pull * HUGE, ticks) for pull, ticks in loads], 100 * HUGE, drive),
                             [(tick, place * HUGE, lost) for tick, place, lost in told])
            self.assertEqual(play_loads(wheel, [(pull, ticks * HUGE) for pull, ticks in loads], 100 * HUGE,
                                        slowed(drive, HUGE)),
                             [(tick * HUGE, place * HUGE, lost) for tick, place, lost in told])
            drive = [(0, 2), (4, 10 ** 28), (10 ** 29, 1)]
            self.assertEqual(play_loads(WHEEL, [(20, 4), (10 ** 29, 10 ** 29)], 0, drive),
                             [(0, 0, 0), (4, 80, 25 * 10 ** 26), (10 ** 29, 200, 25 * 10 ** 26)])

    def test_kinds_and_names(self):
        told = play_loads(wheel=WHEEL, loads=[(20, 4)], place=0, drive=DRIVE)
        self.assertEqual((type(told), [type(row) for row in told]), (list, [tuple, tuple]))
        self.assertEqual([type(number) for row in told for number in row], [int] * 6)


def fine(case, low, high, start, tick, paper):
    """Check that a returned paper is one, by the words of the document."""
    case.assertEqual((type(paper), len(paper)), (tuple, 2))
    place, loads = paper
    case.assertEqual((type(place), type(loads)), (int, list))
    case.assertTrue(start[0] <= place <= start[1])
    case.assertLessEqual(len(loads), 400)
    for load in loads:
        case.assertEqual((type(load), [type(number) for number in load]), (tuple, [int, int]))
        case.assertTrue(low <= load[0] <= high, load)
        case.assertTrue(1 <= load[1] < 10 ** 30, load)
    case.assertGreaterEqual(sum(ticks for _, ticks in loads), tick)


class Papers(unittest.TestCase):
    """Small wheels, held against all ways."""

    def check_places(self, call, where, tick):
        wheel, low, high, start, drive = call
        for place in range(min(where[tick]) - 2, max(where[tick]) + 3):
            paper = place_paper(*call, tick, place)
            if place not in where[tick]:
                self.assertIsNone(paper, (call, tick, place))
                continue
            fine(self, low, high, start, tick, paper)
            begin, loads = paper
            self.assertEqual(with_pulls(wheel, pulls_of(loads), begin, drive, tick)[tick][1], place)
            self.assertIs(shows_place(*call, tick, place, paper), True)
            self.assertIs(shows_place(*call, tick, place + 1, paper), False)
            # With an item at the tick the play tells the place there.
            marked = joined([item for item in drive if item[0] < tick], [(tick, 1)])
            self.assertEqual(play_loads(wheel, loads, begin, marked)[-1][:2], (tick, place))
            self.assertEqual(place_paper(*call, tick, place), paper)

    def check_slips(self, call, kept, firsts):
        wheel, low, high, start, drive = call
        last = last_of(drive)
        for paper, right, wanted in [(slip_paper(*call), any(firsts), True),
                                     (keep_paper(*call), not kept or bool(kept[-1]), False)]:
            if not right:
                self.assertIsNone(paper, call)
                continue
            fine(self, low, high, start, last, paper)
            begin, loads = paper
            states = with_pulls(wheel, pulls_of(loads), begin, drive, last)
            self.assertIs(any(states[tick][2] for tick, _ in drive), wanted, call)
            self.assertIs(shows_slip(*call, paper), wanted)
            self.assertIs(shows_keep(*call, paper), not wanted)
        self.assertIs(slip_paper(*call) is None, is_sure(*call))
        self.assertIs(keep_paper(*call) is None, not can_keep(*call))

    def check(self, wheel, low, high, start, drive):
        call = wheel, low, high, start, drive
        last = last_of(drive)
        _, where, kept, firsts = all_ways(*call, last + 4)
        for tick in sorted({0, 1, last, last + 1, last + 4} | {tick for tick, _ in drive}):
            self.check_places(call, where, tick)
        _, _, kept, firsts = all_ways(*call, last)
        self.check_slips(call, kept, firsts)
        return any(firsts), bool(kept and kept[-1])

    def test_short_drives(self):
        drives = [[]] + [[(tick, turn)] for tick in (0, 2) for turn in (-3, -1, 1, 2)]
        drives += [[(0, one), (gap, other)] for one, other, gap in itertools.product((-1, 1, 2), (-3, 1), (1, 3))]
        for number, wheel in enumerate(SMALL_WHEELS):
            least, greatest = beginnings(wheel)[0], beginnings(wheel)[-1]
            for low, high in ((0, 0), (1, 1), (0, 1), (1, 2), (2, 5), (0, 9)):
                for start in ((0, 0), (least, least), (-1, 1), (0, greatest), (least, greatest)):
                    for drive in drives[(number + low + high + start[0]) % 4::4]:
                        self.check(wheel, low, high, start, drive)

    def test_longer_drives(self):
        chosen = random.Random(23)
        told = set()
        for _ in range(350):
            size = chosen.randrange(3, 20)
            wheel = (size, chosen.randrange(1, min(5, (size - 1) // 2) + 1))
            ticks = sorted(chosen.sample(range(12), chosen.randrange(2, 6)))
            drive = [(tick, chosen.choice([-2, -1, 1, 1, 2])) for tick in ticks]
            low = chosen.randrange(4)
            start = tuple(sorted(chosen.choices(beginnings(wheel), k=2)))
            told.add(self.check(wheel, low, low + chosen.randrange(4), start, drive))
        # Ways with and without a slip, in all four ways.
        self.assertEqual(told, {(False, True), (True, True), (True, False)})

    def test_no_items(self):
        for low, high in ((0, 0), (3, 9), (HUGE, HUGE)):
            for start in ((0, 0), (-200, 199), (7, 9)):
                self.assertIsNone(slip_paper(WHEEL, low, high, start, []))
                paper = keep_paper(WHEEL, low, high, start, [])
                fine(self, low, high, start, 0, paper)
                self.assertIs(shows_keep(WHEEL, low, high, start, [], paper), True)
                self.assertIs(shows_keep(WHEEL, low, high, start, [], (start[0], [])), True)
                self.assertIs(shows_slip(WHEEL, low, high, start, [], (start[0], [])), False)
                self.assertIs(shows_keep(WHEEL, low, high, start, [], (start[0] - 1, [])), False)

    def test_a_slip_at_the_first_and_at_the_last_item(self):
        # Behind a slip the way goes on to the tick of the last item.
        for drive in ([(0, 3), (50, 1)], [(0, 1), (50, 3)], [(0, -2)], [(7, -2)], [(0, 3), (1, -3), (HUGE, 1)]):
            paper = slip_paper(WHEEL, 20, 30, (0, 0), drive)
            fine(self, 20, 30, (0, 0), last_of(drive), paper)
            self.assertIs(shows_slip(WHEEL, 20, 30, (0, 0), drive, paper), True)

    def test_slips_of_the_foremost_wheel(self):
        # The slow wheel is kept, the quick one is too far ahead when the field turns back.
        call = WHEEL, 10, 40, (0, 0), [(0, 2), (5, -2)]
        self.assertEqual(kept_span(*call, 1), (50, 199))
        paper = slip_paper(*call)
        self.assertEqual(walk(WHEEL, paper[1], paper[0], call[4], 5), (200, True))
        self.assertIs(shows_slip(*call, paper), True)
        self.assertIs(shows_keep(*call, keep_paper(*call)), True)


class Shows(unittest.TestCase):
    """Whether a value is a paper: held against the words of the document, for right and wrong values."""

    def test_papers_changed_in_one_thing(self):
        call = WHEEL, 20, 30, (-3, 4), DRIVE
        good = (4, [(30, 1), (25, 2), (20, 1)])
        self.assertEqual((shows_keep(*call, good), shows_slip(*call, good)), (True, False))
        self.assertIs(shows_place(*call, 4, 104, good), True)
        wrong = [
            (5, good[1]), (-4, good[1]), (200, good[1]), (True, good[1]), ("4", good[1]), (None, good[1]),
            (4.0, good[1]), (4, tuple(good[1])), (4, []), (4, good[1][:2]), (4, good[1][1:]), (4, None), (4, 3),
            (4, [(31, 1)] + good[1][1:]), (4, [(19, 1)] + good[1][1:]), (4, good[1] + [(19, 1)]),
            (4, good[1] + [(31, 9)]), (4, good[1] + [(25, 0)]), (4, good[1] + [None]), (4, [[30, 1]] + good[1][1:]),
            (4, [(30, 1, 1)] + good[1][1:]), (4, [(30, True)] + good[1][1:]), (4, [(30.0, 1)] + good[1][1:]),
            (4, [(30, -1), (30, 2)] + good[1][1:]), list(good), good + (1,), good[:1], (good,), {4: good[1]},
            (4, {30: 1, 25: 3}), (4, "ab"), (4, [(25, 1)] * 401), (good[1], 4), ((4,), good[1]),
        ]
        for value in wrong + NO_NUMBERS + [DRIVE, "paper", 4, WHEEL]:
            self.assertIs(shows_keep(*call, value), False, value)
            self.assertIs(shows_slip(*call, value), False, value)
            self.assertIs(shows_place(*call, 4, 104, value), False, value)
        for value in [(4, [(25, 1)] * 400), (4, [(25, 4)]), (4, good[1] + [(20, HUGE)]), (0, [(25, 10 ** 29)])]:
            self.assertIs(shows_keep(*call, value), True, value)

    def test_wrong_loads(self):
        for loads, _ in WRONG_LOADS:
            for shows, more in ((shows_keep, []), (shows_slip, []), (shows_place, [0, 0])):
                self.assertIs(shows(WHEEL, 0, HUGE, (0, 0), [], *more, (0, loads)), False, loads)

    def test_too_few_ticks(self):
        for tick in (0, 1, 4, 60, HUGE):
            drive = [(tick, 1)]
            for ticks, right in ((tick - 1, False), (tick, True), (tick + 1, True)):
                value = (0, [(25, ticks)] if ticks > 0 else [])
                if ticks >= 0:
                    self.assertIs(shows_keep(WHEEL, 20, 30, (0, 0), drive, value), right, (tick, ticks))
                    self.assertIs(shows_place(WHEEL, 20, 30, (0, 0), [], tick, 0, value), right, (tick, ticks))
        # Two loads together are enough.
        self.assertIs(shows_keep(WHEEL, 20, 30, (0, 0), [(5, 1)], (0, [(20, 2), (30, 3)])), True)
        self.assertIs(shows_keep(WHEEL, 20, 30, (0, 0), [(5, 1)], (0, [(20, 2), (30, 2)])), False)

    def test_the_tick_ends_the_paper_of_a_place(self):
        # The pulls that count are those ahead of the tick, but all of them are from low to high.
        call = WHEEL, 20, 30, (0, 0), DRIVE
        self.assertIs(shows_place(*call, 2, 50, (0, [(20, 1), (30, 1)])), True)
        self.assertIs(shows_place(*call, 2, 50, (0, [(20, 1), (30, 1), (25, 7)])), True)
        self.assertIs(shows_place(*call, 2, 50, (0, [(20, 1), (30, 1), (31, 7)])), False)
        self.assertIs(shows_place(*call, 2, 50, (0, [(20, 1)])), False)
        self.assertIs(shows_place(*call, 0, 0, (0, [])), True)
        self.assertIs(shows_place(*call, 0, 1, (0, [])), False)

    def test_all_small_values(self):
        loads = [(pull, ticks) for pull in range(4) for ticks in (1, 2, 3)]
        lists = [[]] + [[one] for one in loads] + [list(two) for two in itertools.product(loads, repeat=2)]
        right = set()
        for wheel, low, high, start, drive in [
            ((5, 2), 1, 2, (-1, 1), [(0, 1), (3, 1)]), ((6, 1), 0, 1, (0, 2), [(1, 3), (2, -1)]),
            ((7, 3), 2, 3, (-3, -3), [(2, -1), (4, 1)]), ((4, 1), 1, 1, (-2, 1), []),
        ]:
            call = wheel, low, high, start, drive
            last = last_of(drive)
            for place in range(-4, 5):
                for some in lists:
                    value = (place, some)
                    pulls = pulls_of(some)
                    paper = start[0] <= place <= start[1] and all(low <= pull <= high for pull in pulls)
                    states = with_pulls(wheel, pulls, place, drive, last) if paper else []
                    slipped = any(lost for _, _, lost in states)
                    enough = paper and len(pulls) >= last
                    self.assertIs(shows_slip(*call, value), enough and slipped, (call, value))
                    self.assertIs(shows_keep(*call, value), enough and not slipped, (call, value))
                    right.add((enough, slipped))
                    for tick in (0, 1, 3):
                        there = with_pulls(wheel, pulls, place, drive, tick)[tick][1] if paper else None
                        for wanted in (there, 0):
                            if wanted is not None:
                                told = shows_place(*call, tick, wanted, value)
                                self.assertIs(told, paper and len(pulls) >= tick and there == wanted)
        self.assertEqual(right, {(False, False), (False, True), (True, False), (True, True)})


class GreatNumbers(unittest.TestCase):
    """60 items and numbers of 28 digits, at once."""

    def chosen_calls(self, many):
        chosen = random.Random(28)
        for _ in range(many):
            size = chosen.randrange(10 ** 28, 10 ** 29)
            wheel = (size, chosen.randrange(1, size // chosen.choice([3, 8])))
            slow = 10 ** chosen.randrange(1, 27)
            gaps = [chosen.randrange(1, 4 * slow) for _ in range(chosen.choice([3, 8, 60]))]
            drive = [(tick, chosen.choice([-2, -1, 1, 2])) for tick in itertools.accumulate(gaps)]
            low = chosen.randrange(size // slow // 12)
            high = low + chosen.randrange(size // slow // 6)
            start = tuple(sorted(chosen.randrange(-(size // 3), size // 3) for _ in range(2)))
            tick = chosen.choice([0, drive[-1][0], drive[-1][0] + slow, drive[len(drive) // 2][0], drive[2][0] + 1])
            yield (wheel, low, high, start, drive), tick

    def test_papers(self):
        papers = {True: 0, False: 0}
        with at_once(60):
            for call, tick in self.chosen_calls(150):
                wheel, low, high, start, drive = call
                told = places(*call, tick)
                for least, greatest in told[:8]:
                    for place in (least, greatest, (least + greatest) // 2):
                        paper = place_paper(*call, tick, place)
                        fine(self, low, high, start, tick, paper)
                        self.assertEqual(walk(wheel, paper[1], paper[0], drive, tick)[0], place)
                        self.assertIs(shows_place(*call, tick, place, paper), True)
                        self.assertIs(shows_place(*call, tick, place - 1, paper), False)
                for place in (told[0][0] - 1, told[-1][1] + 1):
                    self.assertIsNone(place_paper(*call, tick, place))
                for paper, none, wanted in ((slip_paper(*call), is_sure(*call), True),
                                            (keep_paper(*call), not can_keep(*call), False)):
                    self.assertIs(paper is None, none)
                    if paper is not None:
                        papers[wanted] += 1
                        fine(self, low, high, start, drive[-1][0], paper)
                        self.assertIs(walk(wheel, paper[1], paper[0], drive, drive[-1][0])[1], wanted)
                        self.assertEqual((shows_slip(*call, paper), shows_keep(*call, paper)), (wanted, not wanted))
        self.assertGreater(min(papers.values()), 15, papers)

    def test_one_pull_alone(self):
        wheel = (10 ** 29 + 1, HUGE)
        with at_once():
            for drive in (SIXTY, even_drive(60, 3, 1), slowed(SIXTY, HUGE)):
                for pull, place in ((0, 0), (HUGE, 5), (7, -3 * HUGE)):
                    for tick in (0, 1, 50, drive[30][0], drive[-1][0], 10 ** 30 - 1):
                        _, there, _ = state_at(wheel, pull, place, drive, tick)
                        call = wheel, pull, pull, (place, place), drive
                        paper = place_paper(*call, tick, there)
                        fine(self, pull, pull, (place, place), tick, paper)
                        self.assertIs(shows_place(*call, tick, there, paper), True)
                        self.assertIsNone(place_paper(*call, tick, there + 1))

    def test_ticks_and_pulls_of_29_digits(self):
        wheel, drive = (10 ** 29, 10 ** 28), [(0, 2), (10 ** 28, 1)]
        with at_once():
            for low, high in ((0, 10 ** 29), (10 ** 28, 10 ** 29), (0, 1), (1, 7)):
                told = places(wheel, low, high, (0, 5), drive, 10 ** 29)
                for place in (told[0][0], told[-1][1]):
                    paper = place_paper(wheel, low, high, (0, 5), drive, 10 ** 29, place)
                    fine(self, low, high, (0, 5), 10 ** 29, paper)
                    self.assertIs(shows_place(wheel, low, high, (0, 5), drive, 10 ** 29, place, paper), True)


class Lists(unittest.TestCase):
    def test_a_paper_is_new(self):
        for function, more in ((keep_paper, []), (place_paper, [5, 79]), (slip_paper, [])):
            one, other = function(*CALL, *more), function(*CALL, *more)
            self.assertEqual(one, other)
            self.assertIsNot(one[1], other[1])
            kept = list(other[1])
            one[1].clear()
            self.assertEqual(function(*CALL, *more), (other[0], kept))
            other[1].append((1, 1))
            self.assertEqual(function(*CALL, *more), (other[0], kept))

    def test_a_value_is_not_changed(self):
        value = (0, [(25, 4)])
        for _ in range(2):
            self.assertIs(shows_keep(*CALL, value), True)
            self.assertIs(shows_place(*CALL, 4, 100, value), True)
        self.assertEqual(value, (0, [(25, 4)]))


if __name__ == "__main__":
    unittest.main()
