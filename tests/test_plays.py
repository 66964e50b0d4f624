"""Points [8], [9], [14] and [15]: a wheel with the same pull in each tick of a drive."""

import itertools
import random
import unittest

from poleslips.drives import delayed, even_drive, field_at, slowed
from poleslips.plays import is_kept, play, slips, stands_from, state_at
from poleslips.wheels import aim_of, lost_of, pulled, rest_of
from support import HUGE, SIXTY, SMALL_WHEELS, at_once, beginnings, tick_by_tick

WHEEL = (400, 100)
CLIMB = [(0, 1), (3, 1), (5, 1), (9, 1)]


class Texts(unittest.TestCase):
    """What the document says beside its examples."""

    def test_text_of_point_9(self):
        self.assertEqual([place for _, place, _ in play(WHEEL, 20, 0, CLIMB)], [0, 60, 100, 180])
        self.assertEqual([field_at(WHEEL, CLIMB, tick) for tick, _ in CLIMB], [100, 200, 300, 400])
        self.assertEqual((rest_of(WHEEL, 300, 100), lost_of(WHEEL, 300, 100)), (200, 0))
        self.assertEqual((aim_of(WHEEL, 400, 180), rest_of(WHEEL, 400, 180)), (0, -180))
        self.assertIs(is_kept(WHEEL, 20, 0, CLIMB[:3]), True)
        self.assertEqual(slips(WHEEL, 20, 0, CLIMB), [(3, 1)])
        self.assertEqual([state_at(WHEEL, 20, 0, CLIMB, tick)[1] for tick in (9, 10, 17, 18, 19)],
                         [180, 160, 20, 0, 0])

    def test_half_a_round_ahead_is_kept_and_back_is_a_slip(self):
        self.assertEqual(play(WHEEL, 50, 0, [(0, 2)]), [(0, 0, 0)])
        self.assertEqual(play(WHEEL, 50, 0, [(0, -2)]), [(0, 0, -1)])
        self.assertEqual([is_kept(WHEEL, 50, 0, [(0, turn)]) for turn in (2, -2)], [True, False])

    def test_no_pull_stays_and_a_whole_round_is_lost(self):
        self.assertEqual(play(WHEEL, 0, 0, CLIMB), [(0, 0, 0), (3, 0, 0), (5, 0, 1), (9, 0, 1)])
        self.assertEqual(state_at(WHEEL, 0, 0, CLIMB, 9), (400, 0, 1))
        self.assertEqual(stands_from(WHEEL, 0, 0, CLIMB), 9)


class Plays(unittest.TestCase):
    def test_no_items(self):
        for place in (-200, -1, 0, 199):
            self.assertEqual((play(WHEEL, 5, place, []), slips(WHEEL, 5, place, [])), ([], []))
            self.assertIs(is_kept(WHEEL, 5, place, []), True)

    def test_the_wheel_comes_ahead_of_the_first_item(self):
        self.assertEqual(play(WHEEL, 20, -150, [(3, 1)]), [(3, -90, 0)])
        self.assertEqual(play(WHEEL, 20, 150, [(3, 1)]), [(3, 90, 0)])
        self.assertEqual(play(WHEEL, 20, -150, [(8, 1)]), [(8, 0, 0)])
        self.assertEqual(play(WHEEL, 20, -150, [(0, 1)]), [(0, -150, 1)])
        self.assertEqual(slips(WHEEL, 20, -150, [(0, 1)]), [(0, 1)])
        self.assertEqual(slips(WHEEL, 20, -150, [(2, 1)]), [(0, 1)])
        self.assertEqual(slips(WHEEL, 20, -150, [(3, 1)]), [])

    def test_half_a_round_of_an_even_wheel(self):
        # At its tick the wheel is at -100, -101, 99 and 100: one turn of 1, of 1, of -1, of -1.
        some = [(-100, 1), (-101, 1), (99, -1), (100, -1)]
        self.assertEqual([slips(WHEEL, 7, place, [(0, turn)]) for place, turn in some], [[], [(0, 1)], [], [(0, -1)]])
        self.assertEqual([play(WHEEL, 7, place, [(0, turn)]) for place, turn in some],
                         [[(0, -100, 0)], [(0, -101, 1)], [(0, 99, 0)], [(0, 100, -1)]])

    def test_half_a_round_of_an_odd_wheel(self):
        some = [(-100, 1), (-101, 1), (100, -1), (101, -1)]
        self.assertEqual([slips((401, 100), 7, place, [(0, turn)]) for place, turn in some],
                         [[], [(0, 1)], [], [(0, -1)]])

    def test_several_rounds_in_one_turn(self):
        turns = [2, 3, 4, 6, 7, 10, 11, -1, -2, -5, -6, -9, -10]
        self.assertEqual([slips(WHEEL, 0, 0, [(4, turn)]) for turn in turns], [
            [], [(0, 1)], [(0, 1)], [(0, 1)], [(0, 2)], [(0, 2)], [(0, 3)],
            [], [(0, -1)], [(0, -1)], [(0, -2)], [(0, -2)], [(0, -3)],
        ])
        self.assertEqual(play(WHEEL, 30, 0, [(0, 11), (1, -11)]), [(0, 0, 3), (1, -30, 0)])

    def test_rounds_that_are_gained_again(self):
        drive = [(0, 3), (1, -3), (2, -1), (3, -1), (4, 2)]
        self.assertEqual(play(WHEEL, 0, 0, drive), [(0, 0, 1), (1, 0, 0), (2, 0, 0), (3, 0, -1), (4, 0, 0)])
        self.assertEqual(slips(WHEEL, 0, 0, drive), [(0, 1), (1, -1), (3, -1), (4, 1)])
        self.assertIs(is_kept(WHEEL, 0, 0, drive), False)
        self.assertIs(is_kept(WHEEL, 0, 0, [(0, 3), (1, -3)]), False)
        self.assertIs(is_kept(WHEEL, 0, 0, [(0, 2), (1, -2)]), True)

    def test_an_item_behind_a_loss_may_be_no_slip(self):
        self.assertEqual(slips(WHEEL, 0, 0, [(0, 3), (1, 1), (2, 1), (3, 1), (4, 1)]), [(0, 1), (4, 1)])
        self.assertEqual([lost for _, _, lost in play(WHEEL, 0, 0, [(0, 3), (1, 1), (4, 3)])], [1, 1, 2])

    def test_the_aim_reached_just_at_an_item(self):
        drive = [(0, 1), (5, 1), (10, 2)]
        self.assertEqual(play(WHEEL, 20, 0, drive), [(0, 0, 0), (5, 100, 0), (10, 200, 0)])
        self.assertEqual(play(WHEEL, 19, 0, drive), [(0, 0, 0), (5, 95, 0), (10, 190, 1)])
        self.assertEqual(play(WHEEL, 21, 0, drive), [(0, 0, 0), (5, 100, 0), (10, 200, 0)])
        self.assertEqual([is_kept(WHEEL, pull, 0, drive) for pull in (19, 20, 21)], [False, True, True])

    def test_steps_while_the_wheel_still_comes(self):
        self.assertEqual(play(WHEEL, 20, 0, [(0, 2), (2, -1), (3, -1), (4, -1), (5, 1)]),
                         [(0, 0, 0), (2, 40, 0), (3, 60, 0), (4, 40, 0), (5, 20, 0)])
        self.assertEqual(slips(WHEEL, 20, 0, even_drive(9, 4, 1)), [(6, 1)])
        self.assertEqual([lost for _, _, lost in play(WHEEL, 20, 0, even_drive(16, 4, 1))], [0] * 6 + [1] * 8 + [2] * 2)

    def test_a_delayed_drive_from_place_0(self):
        for by in (1, 7, HUGE):
            later = [(tick + by, place, lost) for tick, place, lost in play(WHEEL, 20, 0, CLIMB)]
            self.assertEqual(play(WHEEL, 20, 0, delayed(CLIMB, by)), later)


class States(unittest.TestCase):
    def test_ahead_of_the_items(self):
        drive = [(3, 3), (5, -1)]
        self.assertEqual([state_at(WHEEL, 20, -150, drive, tick) for tick in range(7)], [
            (0, -150, 0), (0, -130, 0), (0, -110, 0), (300, -90, 1), (300, -100, 1),
            (200, -100, 1), (200, -120, 1),
        ])

    def test_at_and_beside_the_items(self):
        drive = [(0, 2), (4, 1)]
        self.assertEqual([state_at(WHEEL, 20, 0, drive, tick) for tick in (0, 1, 3, 4, 5)],
                         [(200, 0, 0), (200, 20, 0), (200, 60, 0), (300, 80, 1), (300, 60, 1)])
        self.assertEqual([state_at(WHEEL, 25, 0, drive, tick) for tick in (0, 1, 3, 4, 5)],
                         [(200, 0, 0), (200, 25, 0), (200, 75, 0), (300, 100, 0), (300, 125, 0)])

    def test_far_behind_the_items(self):
        with at_once():
            self.assertEqual(state_at(WHEEL, 25, 0, [(0, 2), (4, 1)], 10 ** 29), (300, 300, 0))
            self.assertEqual(state_at(WHEEL, 1, 0, [(0, 2), (4, 1)], 10 ** 29), (300, -100, 1))
            self.assertEqual(state_at(WHEEL, 0, 0, [(0, 2), (4, 1)], 10 ** 29), (300, 0, 1))

    def test_no_items(self):
        self.assertEqual([state_at(WHEEL, 20, 150, [], tick) for tick in (0, 1, 7, 8, 10 ** 29)],
                         [(0, 150, 0), (0, 130, 0), (0, 10, 0), (0, 0, 0), (0, 0, 0)])

    def test_kinds(self):
        told = state_at(wheel=WHEEL, pull=20, place=0, drive=CLIMB, tick=4)
        self.assertIs(type(told), tuple)
        self.assertEqual([type(number) for number in told], [int, int, int])


class Stands(unittest.TestCase):
    def test_rounded_up(self):
        self.assertEqual([stands_from(WHEEL, pull, 0, [(10, 1)]) for pull in (1, 33, 34, 50, 51, 99, 100, 101, HUGE)],
                         [110, 14, 13, 12, 12, 12, 11, 11, 11])
        self.assertEqual([stands_from(WHEEL, pull, 0, [(10, -1)]) for pull in (1, 33, 34, 99, 100, 101)],
                         [110, 14, 13, 12, 11, 11])

    def test_no_pull(self):
        self.assertEqual([stands_from(WHEEL, 0, 0, [(7, turn)]) for turn in (1, 4, -4, 5, 8)], [None, 7, 7, None, 7])
        self.assertEqual([stands_from(WHEEL, 0, 0, drive) for drive in ([(0, 1), (9, -1)], [(0, 4), (9, 1)])],
                         [9, None])
        self.assertEqual([stands_from(WHEEL, 0, place, []) for place in (-1, 0, 1)], [None, 0, None])
        self.assertEqual(stands_from(WHEEL, 0, 100, [(6, 1)]), 6)

    def test_no_items(self):
        self.assertEqual([stands_from(WHEEL, 20, place, []) for place in (-200, -1, 0, 20, 21, 199)],
                         [10, 1, 0, 1, 2, 10])

    def test_the_wheel_stands_already(self):
        self.assertEqual(stands_from(WHEEL, 20, 0, [(3, 4)]), 3)
        self.assertEqual(stands_from(WHEEL, 20, 0, [(0, 1), (5, 4)]), 5)
        self.assertEqual(stands_from(WHEEL, 20, 0, [(0, 1), (50, 4)]), 50)
        self.assertEqual(stands_from(WHEEL, 20, 0, [(0, 1), (3, -1), (9, -1), (10, 1)]), 11)
        # It stands ahead of the last item, too, but that does not count.
        self.assertEqual(stands_from(WHEEL, 20, 0, [(40, 1)]), 45)

    def test_great_numbers_at_once(self):
        with at_once():
            self.assertEqual(stands_from((10 ** 29, 1), 1, -5 * 10 ** 28, []), 5 * 10 ** 28)
            self.assertEqual(stands_from((10 ** 29, 1), 3, 1 - 5 * 10 ** 28, []), (5 * 10 ** 28 - 1 + 2) // 3)
            self.assertEqual(stands_from((10 ** 29, HUGE), 7, 0, [(HUGE, 3)]), HUGE + (3 * HUGE + 6) // 7)
            self.assertEqual(stands_from((10 ** 29, HUGE), 0, 0, [(HUGE, 3)]), None)


def small_drives():
    """Many drives of up to three items that come soon behind each other."""
    yield []
    turns = (-7, -3, -2, -1, 1, 2, 4, 9)
    for tick in (0, 1, 4):
        for turn in turns:
            yield [(tick, turn)]
    for first, gap in ((0, 1), (0, 3), (2, 2)):
        for one, other in itertools.product(turns, turns):
            yield [(first, one), (first + gap, other)]
    for one, other, third in itertools.product((-3, -1, 1, 2), repeat=3):
        yield [(0, one), (1, other), (3, third)]


class TickByTick(unittest.TestCase):
    """Small numbers, held against a wheel that is pulled tick by tick."""

    LAST = 12

    def check(self, wheel, pull, place, drive):
        told = (wheel, pull, place, drive)
        states = tick_by_tick(wheel, pull, place, drive, self.LAST)
        shown = [(tick, states[tick][1], states[tick][2]) for tick, _ in drive]
        self.assertEqual(play(*told), shown, told)
        losses = [0] + [lost for _, _, lost in shown]
        changes = [(index, losses[index + 1] - losses[index]) for index in range(len(drive))]
        expected = [change for change in changes if change[1] != 0]
        self.assertEqual(slips(*told), expected, told)
        self.assertIs(is_kept(*told), expected == [], told)
        for tick in range(0, self.LAST + 1, 1 + place % 2):
            self.assertEqual(state_at(*told, tick), states[tick], (told, tick))
        last = drive[-1][0] if drive else 0
        stands = [tick for tick in range(last, self.LAST + 1)
                  if (states[tick][0] - states[tick][1]) % wheel[0] == 0]
        self.assertEqual(stands_from(*told), stands[0] if stands else self.later(states[-1], wheel, pull), told)

    def later(self, state, wheel, pull):
        if pull == 0:
            return None
        field, place, _ = state
        tick = self.LAST
        while rest_of(wheel, field, place) != 0:
            place = pulled(wheel, field, place, pull, 1)
            tick += 1
        return tick

    def test_small_numbers(self):
        drives = list(small_drives())
        for wheel in SMALL_WHEELS:
            for pull in (0, 1, 2, 5):
                for place in sorted({beginnings(wheel)[0], -1, 0, 1, beginnings(wheel)[-1]}):
                    for drive in drives[(pull + place) % 2::2]:
                        self.check(wheel, pull, place, drive)

    def test_longer_drives(self):
        chosen = random.Random(20)
        for _ in range(400):
            size = chosen.randrange(3, 40)
            wheel = (size, chosen.randrange(1, (size - 1) // 2 + 1))
            ticks = sorted(chosen.sample(range(self.LAST + 1), chosen.randrange(1, 9)))
            drive = [(tick, chosen.choice([-3, -2, -1, 1, 1, 2, 3])) for tick in ticks]
            self.check(wheel, chosen.randrange(0, 9), chosen.choice(list(beginnings(wheel))), drive)


class GreatNumbers(unittest.TestCase):
    """60 items and numbers of 29 digits, held against small ones: all lengths may be multiplied, and all ticks."""

    WHEEL = (40, 9)
    DRIVE = [(3 * number + number % 3, number * number % 7 - 3) for number in range(60)]

    def test_all_lengths_multiplied(self):
        for pull, place in ((0, 0), (3, -20), (7, 19), (11, 3)):
            small = tick_by_tick(self.WHEEL, pull, place, self.DRIVE, 190)
            wheel = (40 * HUGE, 9 * HUGE)
            with at_once():
                self.assertEqual(
                    play(wheel, pull * HUGE, place * HUGE, self.DRIVE),
                    [(tick, small[tick][1] * HUGE, small[tick][2]) for tick, _ in self.DRIVE],
                )
                for tick in (0, 1, 50, 119, 178, 190):
                    field, there, lost = small[tick]
                    self.assertEqual(state_at(wheel, pull * HUGE, place * HUGE, self.DRIVE, tick),
                                     (field * HUGE, there * HUGE, lost))

    def test_all_ticks_multiplied(self):
        for pull, place in ((0, 0), (3, -20), (7, 19), (11, 3)):
            small = tick_by_tick(self.WHEEL, pull, place, self.DRIVE, 190)
            wheel, slow = (40 * HUGE, 9 * HUGE), slowed(self.DRIVE, HUGE)
            with at_once():
                self.assertEqual(
                    play(wheel, pull, place * HUGE, slow),
                    [(tick * HUGE, small[tick][1] * HUGE, small[tick][2]) for tick, _ in self.DRIVE],
                )
                changes = slips(wheel, pull, place * HUGE, slow)
                self.assertEqual(changes, slips(self.WHEEL, pull, place, self.DRIVE))
                self.assertIs(is_kept(wheel, pull, place * HUGE, slow), changes == [])
                for tick in (0, 1, 50, 119, 178, 190):
                    field, there, lost = small[tick]
                    self.assertEqual(state_at(wheel, pull, place * HUGE, slow, tick * HUGE),
                                     (field * HUGE, there * HUGE, lost))

    def test_great_turns(self):
        with at_once():
            self.assertEqual(play(WHEEL, 20, 0, [(0, 4 * HUGE), (HUGE, 1), (2 * HUGE, -4 * HUGE - 3)]),
                             [(0, 0, HUGE), (HUGE, 0, HUGE), (2 * HUGE, 100, -1)])
            self.assertEqual(slips(WHEEL, 20, 0, [(0, 4 * HUGE), (HUGE, 1), (2 * HUGE, -4 * HUGE - 3)]),
                             [(0, HUGE), (2, -1 - HUGE)])

    def test_sixty_items(self):
        with at_once():
            for drive in (SIXTY, even_drive(60, HUGE, HUGE), even_drive(60, HUGE, -1)):
                shown = play((10 ** 29 + 1, HUGE), HUGE, 0, drive)
                self.assertEqual([tick for tick, _, _ in shown], [tick for tick, _ in drive])
                for tick, place, lost in shown:
                    field = field_at((10 ** 29 + 1, HUGE), drive, tick)
                    self.assertEqual(lost, lost_of((10 ** 29 + 1, HUGE), field, place))
                self.assertEqual(sum(rounds for _, rounds in slips((10 ** 29 + 1, HUGE), HUGE, 0, drive)),
                                 shown[-1][2])


if __name__ == "__main__":
    unittest.main()
