"""Points [16] and [17]: equal steps without end."""

import itertools
import math
import unittest

from poleslips.drives import even_drive
from poleslips.plays import play, slips
from poleslips.steady import first_slip, least_every, lost_behind, pace
from poleslips.wheels import lost_of, pulled, rest_of
from support import HUGE, at_once, beginnings, lost_rounds, nearest, pulled_once

WHEEL = (400, 100)
SMALL = [(size, step) for size in range(3, 10) for step in range(1, (size - 1) // 2 + 1)]


def steps_one_by_one(wheel, pull, every, place, many):
    """For each of the first many steps the rest ahead of it, and the rounds lost ahead of and behind it."""
    field, rows = 0, []
    for _ in range(many):
        rest, before = nearest(wheel, field, place) - place, lost_rounds(wheel, field, place)
        field += wheel[1]
        rows.append((rest, before, lost_rounds(wheel, field, place)))
        for _ in range(every):
            place = pulled_once(wheel, field, place, pull)
    return rows


def slips_in(rows):
    return [index for index, (_, before, behind) in enumerate(rows) if before != behind]


def far_on(rows, size, many):
    """The rounds lost behind many steps: from the step `size` on the rests surely repeat."""
    losses = [0] + [behind for _, _, behind in rows]
    if many < len(rows):
        return losses[many]
    period = next(length for length in range(1, size + 1) if rows[size + length][0] == rows[size][0])
    turns, more = divmod(many - size, period)
    return losses[size + more] + turns * (losses[size + period] - losses[size])


class Small(unittest.TestCase):
    """Small wheels, held against one that is pulled tick by tick over more steps than there are rests."""

    def each(self, pulls=None):
        for wheel in SMALL:
            for pull in range(wheel[0] + 3) if pulls is None else pulls:
                for every in (1, 2, 3, 5):
                    yield wheel, pull, every

    def test_first_slip_lost_behind_and_pace(self):
        endless = kept_but_first = 0
        for wheel, pull, every in self.each():
            size = wheel[0]
            told = pace(wheel, pull, every)
            for place in beginnings(wheel):
                call = wheel, pull, every, place
                rows = steps_one_by_one(*call, 3 * size + 2)
                found = slips_in(rows)
                self.assertEqual(first_slip(*call), found[0] if found else None, call)
                endless += not found
                kept_but_first += found == [0]
                losses = [0] + [behind for _, _, behind in rows]
                self.assertEqual([lost_behind(*call, many) for many in range(len(losses))], losses, call)
                for many in (100, 101, 10 ** 29, 10 ** 29 + 1, 10 ** 30 - 1):
                    self.assertEqual(lost_behind(*call, many), far_on(rows, size, many), (call, many))
                # All rests repeat within size steps, so size! steps from the step `size` on are whole turns.
                whole = math.factorial(size)
                lost = far_on(rows, size, size + whole) - far_on(rows, size, size)
                self.assertEqual(lost * told[1], whole * told[0], call)
            self.assertEqual(math.gcd(*told), 1, call)
            self.assertGreaterEqual(told[1], 1)
        self.assertGreater(endless, 100)
        self.assertGreater(kept_but_first, 100)

    def test_none_exactly_where_the_wheel_is_quick_enough(self):
        for wheel, pull, every in self.each():
            for place in beginnings(wheel):
                never = pull * every >= wheel[1] and wheel[1] - place <= wheel[0] // 2
                self.assertIs(first_slip(wheel, pull, every, place) is None, never, (wheel, pull, every, place))

    def test_least_every(self):
        for wheel in SMALL:
            for pull in range(1, wheel[0] + 3):
                every = least_every(wheel, pull)
                self.assertGreaterEqual(every, 1)
                for place in beginnings(wheel):
                    self.assertIn(slips_in(steps_one_by_one(wheel, pull, every, place, 3 * wheel[0])), ([], [0]))
                    if every > 1:
                        found = slips_in(steps_one_by_one(wheel, pull, every - 1, place, 3 * wheel[0]))
                        self.assertNotIn(found, ([], [0]))
            self.assertIsNone(least_every(wheel, 0))

    def test_all_numbers_times_a_number(self):
        for times in (2, 7, HUGE):
            for wheel, pull, every in self.each((0, 1, 2, 3)):
                more = wheel[0] * times, wheel[1] * times
                self.assertEqual(least_every(more, pull * times), least_every(wheel, pull))
                for place in beginnings(wheel):
                    told = first_slip(more, pull * times, every, place * times)
                    self.assertEqual(told, first_slip(wheel, pull, every, place), (times, wheel, pull, every, place))
        for wheel, pull, every in self.each((0, 1, 2, 3)):
            more = wheel[0] * 7, wheel[1] * 7
            self.assertEqual(pace(more, pull * 7, every), pace(wheel, pull, every))
            for place, many in itertools.product(beginnings(wheel), (0, 1, 9, 10 ** 29)):
                self.assertEqual(lost_behind(more, pull * 7, every, place * 7, many),
                                 lost_behind(wheel, pull, every, place, many))


class FirstSlip(unittest.TestCase):
    def test_text_of_point_16(self):
        rows = play(WHEEL, 20, 0, even_drive(9, 4, 1))
        rests = [rest_of(WHEEL, 100 * (index + 1), place) for index, (_, place, _) in enumerate(rows)]
        self.assertEqual(rests, [100, 120, 140, 160, 180, 200, -180, 0, 100])
        self.assertEqual(first_slip(WHEEL, 20, 4, 0), 6)

    def test_the_first_step(self):
        self.assertEqual([first_slip(WHEEL, 50, 9, place) for place in (-200, -101, -100, -99)], [0, 0, None, None])
        self.assertEqual([first_slip((401, 100), 50, 9, place) for place in (-200, -101, -100)], [0, 0, None])
        self.assertEqual([first_slip(WHEEL, 0, 9, place) for place in (-200, -101, -100, -1, 0, 1, 199)],
                         [0, 0, 1, 1, 2, 2, 3])

    def test_the_wheel_just_as_quick_as_the_steps(self):
        self.assertEqual([first_slip(WHEEL, 25, every, 0) for every in (3, 4, 5)], [5, None, None])
        self.assertEqual([first_slip(WHEEL, pull, 4, 0) for pull in (24, 25, 26)], [26, None, None])
        self.assertEqual([first_slip(WHEEL, 1, every, 0) for every in (99, 100)], [101, None])

    def test_no_pull(self):
        for wheel in SMALL + [WHEEL, (10 ** 29, 3), (10 ** 29 + 1, 7 * 10 ** 27)]:
            fore = wheel[0] // 2
            for place in (-fore, -fore + 1, -1, 0, 1, fore - 1):
                for every in (1, 5, HUGE):
                    self.assertEqual(first_slip(wheel, 0, every, place), (fore + place) // wheel[1])

    def test_a_wheel_ahead_of_the_field(self):
        # Behind the first step the field is 299, 199, 99, 31 and so on behind: it comes nearer by 120 a step.
        wheel = (1000, 100)
        for place in (499, 400, 399, 220, 219, 200, 121, 120, 119, 101, 100, 99, 80, 1):
            for pull in (0, 1, 19, 20, 21, 99):
                rows = steps_one_by_one(wheel, pull, 1, place, 800)
                self.assertEqual(first_slip(wheel, pull, 1, place), slips_in(rows)[0], (place, pull))

    def test_great_numbers_against_drives(self):
        many = 0
        with at_once():
            for size in (10 ** 29, 10 ** 29 + 1, 10 ** 30 - 1):
                for step in (size // 9, size // 20, size // 55, (size - 1) // 2):
                    for pull in (0, 1, step // 3, step // 3 * 2, step - 1, step, step - size // 101):
                        for place in (0, 1, -1, size // 7, -size // 7, (size - 1) // 2, -(size // 2), step, step - 1,
                                      step + pull, step + pull + 1, step + pull - 1, 2 * step + pull):
                            if -(size // 2) <= place <= (size - 1) // 2 and pull >= 0:
                                many += self.check_drive((size, step), pull, place)
        self.assertGreater(many, 200)

    def check_drive(self, wheel, pull, place):
        found = slips(wheel, pull, place, even_drive(60, 1, 1))
        told = first_slip(wheel, pull, 1, place)
        if found:
            self.assertEqual(told, found[0][0], (wheel, pull, place))
        elif told is not None:
            self.assertGreaterEqual(told, 60, (wheel, pull, place))
        return bool(found)

    def test_great_numbers_at_once(self):
        half = 5 * 10 ** 28
        with at_once():
            # Each step brings the field one unit further ahead.
            for step in (2, 1000, HUGE):
                self.assertEqual(first_slip((10 ** 29, step), step - 1, 1, 0), half - step + 1)
                self.assertEqual(first_slip((10 ** 29 + 1, step), step - 1, 1, 0), half - step + 1)
                self.assertIsNone(first_slip((10 ** 29, step), step, 1, 0))
                self.assertIsNone(first_slip((10 ** 29, step), 1, step, 0))
                self.assertEqual(first_slip((10 ** 29, step), 1, step - 1, 0), half - step + 1)
            self.assertEqual(first_slip((10 ** 29, 1), 0, 1, 0), half)
            self.assertEqual(first_slip((10 ** 29, 1), 0, HUGE, half - 1), 10 ** 29 - 1)
            self.assertEqual(first_slip((10 ** 29, 1), 0, HUGE, -half), 0)
            self.assertIsNone(first_slip((10 ** 29, 1), 1, HUGE, half - 1))
            # 3 units nearer each step from behind, and then one unit further ahead each step.
            self.assertEqual(first_slip((10 ** 29, 2), 1, 1, 2 + 3 * HUGE), HUGE + 1 + half - 1)
            self.assertEqual(first_slip((10 ** 29, 2), 1, 1, 1 + 3 * HUGE), HUGE + 1 + half - 1)
            self.assertEqual(first_slip((10 ** 29, 2), 1, 1, 3 + 3 * HUGE), HUGE + 1 + half - 1)
            self.assertEqual(first_slip((10 ** 29, 2), 1, 1, 4 + 3 * HUGE), HUGE + 2 + half - 1)

    def test_kinds_and_names(self):
        self.assertIs(type(first_slip(wheel=WHEEL, pull=20, every=4, place=0)), int)
        self.assertIs(type(least_every(wheel=WHEEL, pull=20)), int)


class LeastEvery(unittest.TestCase):
    def test_rounded_up(self):
        self.assertEqual([least_every(WHEEL, pull) for pull in (1, 2, 3, 33, 34, 49, 50, 51, 99, 100, 101, HUGE)],
                         [100, 50, 34, 4, 3, 3, 2, 2, 2, 1, 1, 1])

    def test_no_pull(self):
        self.assertEqual([least_every(wheel, 0) for wheel in (WHEEL, (3, 1), (10 ** 29, 1))], [None] * 3)

    def test_one_tick_less(self):
        for wheel, pull in [(WHEEL, 7), (WHEEL, 99), ((401, 200), 13), ((2000, 999), 1), ((10 ** 29, HUGE), 3),
                            ((10 ** 29 + 1, HUGE + 1), 10 ** 14)]:
            every = least_every(wheel, pull)
            half = wheel[0] // 2
            for place in (0, 1, wheel[1], half - 1, wheel[1] - half):
                self.assertIsNone(first_slip(wheel, pull, every, place))
                self.assertIsNone(first_slip(wheel, pull, every + 1, place))
                self.assertGreater(first_slip(wheel, pull, every - 1, place), 0)

    def test_great_numbers_at_once(self):
        with at_once():
            self.assertEqual(least_every((10 ** 29, 4 * HUGE), 1), 4 * HUGE)
            self.assertEqual(least_every((10 ** 29, 4 * HUGE), 3), (4 * HUGE + 2) // 3)
            self.assertEqual(least_every((10 ** 29, 4 * HUGE), 4 * HUGE - 1), 2)
            self.assertEqual(least_every((10 ** 29, 4 * HUGE), 4 * HUGE), 1)
            self.assertEqual(least_every((10 ** 29, 4 * HUGE), 10 ** 30 - 1), 1)


class InTheLongRun(unittest.TestCase):
    def test_no_steps_and_one(self):
        self.assertEqual([lost_behind(WHEEL, 20, 4, place, 0) for place in (-200, 0, 199)], [0, 0, 0])
        self.assertEqual([lost_behind(WHEEL, 20, 4, place, 1) for place in (-200, -101, -100, 0, 199)],
                         [1, 1, 0, 0, 0])

    def test_behind_many_steps(self):
        with at_once():
            self.assertEqual(lost_behind(WHEEL, 20, 4, 0, 10 ** 29), 10 ** 29 // 8)
            self.assertEqual(lost_behind(WHEEL, 0, 7, 0, 10 ** 29), 10 ** 29 // 4)
            self.assertEqual([lost_behind(WHEEL, 25, 4, place, 10 ** 29) for place in (-200, -101, -100, 199)],
                             [1, 1, 0, 0])
            self.assertEqual(lost_behind(WHEEL, HUGE, HUGE, 0, 10 ** 29), 0)

    def test_pace(self):
        self.assertEqual([pace(WHEEL, 20, every) for every in (1, 2, 3, 4, 5)],
                         [(1, 4), (1, 4), (1, 5), (1, 8), (0, 1)])
        self.assertEqual([pace((size, 2), 0, 1) for size in (5, 6, 7, 8)], [(2, 5), (1, 3), (2, 7), (1, 4)])
        self.assertEqual([pace((401, 7), 0, 1), pace((401, 7), 7, 1), pace((401, 7), 8, HUGE)],
                         [(7, 401), (0, 1), (0, 1)])
        for told in (pace(WHEEL, 20, 4), pace(WHEEL, 25, 4)):
            self.assertEqual((type(told), [type(number) for number in told]), (tuple, [int, int]))

    def test_wheels_of_two_thousand(self):
        with at_once(60):
            for wheel in ((2000, 1), (2000, 999), (2000, 600), (1999, 7), (1999, 999), (1999, 500)):
                for pull, every in ((0, 1), (1, 1), (3, 2), (13, 7), (99, 5), (1, 998)):
                    for place in (-(wheel[0] // 2), -3, 0, 700, (wheel[0] - 1) // 2):
                        self.check_long(wheel, pull, every, place)

    def check_long(self, wheel, pull, every, place):
        call, field, losses, rests = (wheel, pull, every, place), 0, [0], []
        for _ in range(2 * wheel[0] + 2):
            rests.append(rest_of(wheel, field, place))
            field += wheel[1]
            losses.append(lost_of(wheel, field, place))
            place = pulled(wheel, field, place, pull, every)
        for many in (1, 2, 999, 1000, 1001, 1999, 2000, 2001, 3998):
            self.assertEqual(lost_behind(*call, many), losses[many], (call, many))
        size = wheel[0]
        period = rests.index(rests[size], size + 1) - size
        lost = losses[size + period] - losses[size]
        common = math.gcd(lost, period)
        self.assertEqual(pace(*call[:3]), (lost // common, period // common), call)
        for many in (10 ** 29, 10 ** 29 + 1):
            turns, more = divmod(many - size, period)
            self.assertEqual(lost_behind(*call, many), losses[size + more] + turns * lost, (call, many))


if __name__ == "__main__":
    unittest.main()
