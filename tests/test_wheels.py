"""Points [5], [6], [7] and [11]: wheels, aims, rests, rounds lost and pulls."""

import unittest

from poleslips.wheels import aim_of, back_of, fore_of, is_wheel, lost_of, pulled, rest_of
from support import (
    GOOD_WHEELS, HUGE, SMALL_WHEELS, WRONG_WHEELS, at_once, lost_rounds, nearest, pulled_once,
)


class Wheels(unittest.TestCase):
    def test_wheels(self):
        for wheel in GOOD_WHEELS:
            with self.subTest(wheel=wheel):
                self.assertIs(is_wheel(wheel), True)
                self.assertIs(is_wheel(value=wheel), True)

    def test_no_wheels(self):
        for value, _ in WRONG_WHEELS:
            with self.subTest(value=value):
                self.assertIs(is_wheel(value), False)

    def test_least_round(self):
        self.assertEqual([is_wheel((size, 1)) for size in (-1, 0, 1, 2, 3, 4)], [False] * 4 + [True] * 2)

    def test_greatest_step(self):
        for size in [3, 4, 5, 6, 7, 8, 399, 400, 401, 10 ** 29, 10 ** 29 + 1, 10 ** 30 - 1]:
            with self.subTest(size=size):
                greatest = (size - 1) // 2
                steps = [-1, 0, 1, greatest, greatest + 1, size]
                self.assertEqual([is_wheel((size, step)) for step in steps], [False, False, True, True, False, False])

    def test_fore_and_back(self):
        sizes = [3, 4, 5, 6, 7, 400, 401, 10 ** 29, 10 ** 29 + 1]
        self.assertEqual(
            [(fore_of((size, 1)), back_of((size, 1))) for size in sizes],
            [
                (1, 1), (2, 1), (2, 2), (3, 2), (3, 3), (200, 199), (200, 200),
                (5 * 10 ** 28, 5 * 10 ** 28 - 1), (5 * 10 ** 28, 5 * 10 ** 28),
            ],
        )
        for wheel in GOOD_WHEELS:
            self.assertEqual(fore_of(wheel) + back_of(wheel) + 1, wheel[0])
            self.assertEqual([type(fore_of(wheel)), type(back_of(wheel))], [int, int])


class Aims(unittest.TestCase):
    def aims(self, wheel, field, places):
        return [(aim_of(wheel, field, place), rest_of(wheel, field, place), lost_of(wheel, field, place))
                for place in places]

    def test_text_of_point_6(self):
        self.assertEqual(self.aims((400, 100), 0, [-200, 200]), [(0, 200, 0), (400, 200, -1)])

    def test_at_the_field(self):
        self.assertEqual(self.aims((400, 100), 0, [0, 400, -400, 4000]),
                         [(0, 0, 0), (400, 0, -1), (-400, 0, 1), (4000, 0, -10)])
        self.assertEqual(self.aims((5, 2), -7, [-7, -2, -12, 3]), [(-7, 0, 0), (-2, 0, -1), (-12, 0, 1), (3, 0, -2)])

    def test_half_a_round_of_an_even_wheel(self):
        places = [-201, -200, -199, 199, 200, 201]
        self.assertEqual(self.aims((400, 100), 0, places),
                         [(-400, -199, 1), (0, 200, 0), (0, 199, 0), (0, -199, 0), (400, 200, -1), (400, 199, -1)])
        self.assertEqual(self.aims((4, 1), 10, [7, 8, 9, 11, 12, 13]),
                         [(6, -1, 1), (10, 2, 0), (10, 1, 0), (10, -1, 0), (14, 2, -1), (14, 1, -1)])

    def test_half_a_round_of_an_odd_wheel(self):
        self.assertEqual(self.aims((5, 2), 0, [-3, -2, -1, 1, 2, 3]),
                         [(-5, -2, 1), (0, 2, 0), (0, 1, 0), (0, -1, 0), (0, -2, 0), (5, 2, -1)])
        self.assertEqual(self.aims((401, 100), -1000, [-1201, -1200, -800, -799]),
                         [(-1401, -200, 1), (-1000, 200, 0), (-1000, -200, 0), (-599, 200, -1)])

    def test_many_rounds_away(self):
        self.assertEqual(self.aims((400, 100), 0, [4199, 4200, -4200, -4201]),
                         [(4000, -199, -10), (4400, 200, -11), (-4000, 200, 10), (-4400, -199, 11)])
        self.assertEqual(self.aims((3, 1), 10 ** 28, [0]), [(1, 1, (10 ** 28 - 1) // 3)])
        self.assertEqual(self.aims((400, 100), 10 ** 28, [150, -150]),
                         [(0, -150, 25 * 10 ** 24), (0, 150, 25 * 10 ** 24)])
        self.assertEqual(self.aims((400, 100), -10 ** 28, [200]), [(400, 200, -25 * 10 ** 24 - 1)])
        big = (10 ** 29, 1)
        self.assertEqual(self.aims(big, 0, [5 * 10 ** 28, 5 * 10 ** 28 - 1, -5 * 10 ** 28, -5 * 10 ** 28 - 1]), [
            (10 ** 29, 5 * 10 ** 28, -1), (0, 1 - 5 * 10 ** 28, 0), (0, 5 * 10 ** 28, 0),
            (-10 ** 29, 1 - 5 * 10 ** 28, 1),
        ])

    def test_negative_fields(self):
        self.assertEqual(self.aims((400, 100), -600, [0, -1, 1, -600, -800, -801]), [
            (200, 200, -2), (-200, -199, -1), (200, 199, -2), (-600, 0, 0), (-600, 200, 0), (-1000, -199, 1),
        ])

    def test_all_small_ones_against_a_search(self):
        for wheel in SMALL_WHEELS + [(10, 1), (11, 5)]:
            for field in range(-25, 26):
                for place in range(-30, 31):
                    aim = nearest(wheel, field, place)
                    told = aim_of(wheel, field, place), rest_of(wheel, field, place), lost_of(wheel, field, place)
                    self.assertEqual(told, (aim, aim - place, lost_rounds(wheel, field, place)), (wheel, field, place))

    def test_great_ones_against_a_search(self):
        for wheel in GOOD_WHEELS:
            for field in (0, -1, HUGE, 3 - HUGE, 7 * HUGE + 5):
                for place in (0, 1, HUGE, -HUGE - 1, 5 * HUGE, -5 * HUGE, 5 * HUGE - 1, wheel[0] // 2 + field):
                    aim = nearest(wheel, field, place)
                    told = aim_of(wheel, field, place), rest_of(wheel, field, place), lost_of(wheel, field, place)
                    self.assertEqual(told, (aim, aim - place, lost_rounds(wheel, field, place)), (wheel, field, place))

    def test_the_step_does_not_count(self):
        for step in (1, 57, 199):
            self.assertEqual(self.aims((400, step), 1000, [350]), [(200, -150, 2)])

    def test_kinds(self):
        for function in (aim_of, rest_of, lost_of):
            self.assertIs(type(function((400, 100), 1000, 350)), int)
            self.assertEqual(function(place=350, wheel=(400, 100), field=1000), function((400, 100), 1000, 350))


class Pulls(unittest.TestCase):
    def test_around_the_rest(self):
        # The rest is 150 ahead, then 150 back.
        pulls = [0, 1, 149, 150, 151, 10 ** 29]
        self.assertEqual([pulled((400, 100), 0, -150, pull, 1) for pull in pulls], [-150, -149, -1, 0, 0, 0])
        self.assertEqual([pulled((400, 100), 0, 150, pull, 1) for pull in pulls], [150, 149, 1, 0, 0, 0])

    def test_at_the_aim(self):
        for pull in (0, 1, 50, 10 ** 29):
            for ticks in (0, 1, 2, 10 ** 29):
                self.assertEqual(pulled((400, 100), 300, 300, pull, ticks), 300)
                self.assertEqual(pulled((400, 100), 300, -500, pull, ticks), -500)

    def test_half_a_round(self):
        pulls = [0, 1, 199, 200, 201]
        self.assertEqual([pulled((400, 100), 0, 200, pull, 1) for pull in pulls], [200, 201, 399, 400, 400])
        self.assertEqual([pulled((400, 100), 0, -200, pull, 1) for pull in pulls], [-200, -199, -1, 0, 0])
        self.assertEqual([pulled((400, 100), 0, 199, pull, 1) for pull in pulls], [199, 198, 0, 0, 0])
        self.assertEqual([pulled((5, 2), 0, place, 1, 1) for place in (-3, -2, 2, 3)], [-4, -1, 1, 4])

    def test_several_ticks(self):
        self.assertEqual([pulled((400, 100), 0, 150, 40, ticks) for ticks in range(6)], [150, 110, 70, 30, 0, 0])
        self.assertEqual([pulled((400, 100), -600, 0, 70, ticks) for ticks in range(5)], [0, 70, 140, 200, 200])
        self.assertEqual([pulled((400, 100), 0, -150, 50, ticks) for ticks in range(5)], [-150, -100, -50, 0, 0])

    def test_no_pull_and_no_ticks(self):
        for place in (-201, -200, -1, 0, 1, 200, 12345):
            self.assertEqual(pulled((400, 100), 0, place, 0, 7), place)
            self.assertEqual(pulled((400, 100), 0, place, 0, 0), place)
            self.assertEqual(pulled((400, 100), 0, place, 999, 0), place)

    def test_great_numbers_at_once(self):
        wheel, half = (10 ** 29, 1), 5 * 10 ** 28
        with at_once():
            self.assertEqual(pulled(wheel, 0, half, 1, 10 ** 28), 6 * 10 ** 28)
            self.assertEqual(pulled(wheel, 0, half - 1, 1, 10 ** 28), 4 * 10 ** 28 - 1)
            self.assertEqual(pulled(wheel, 0, -half, 1, half - 1), -1)
            self.assertEqual(pulled(wheel, 0, -half, 1, half), 0)
            self.assertEqual(pulled(wheel, 0, -half, 1, half + 1), 0)
            self.assertEqual(pulled(wheel, 0, half - 1, 3, 10 ** 28), 2 * 10 ** 28 - 1)
            self.assertEqual(pulled((400, 100), HUGE, -HUGE, HUGE, HUGE), -HUGE)
            self.assertEqual(pulled((400, 100), 10 ** 28, 10 ** 28 - 10 ** 5 - 3, 1, 10 ** 28), 10 ** 28 - 10 ** 5)
            self.assertEqual(pulled((400, 100), 0, 200, 0, 10 ** 29), 200)
            self.assertEqual(pulled((400, 100), 0, 200, 1, 10 ** 29), 400)
            self.assertEqual(pulled((400, 100), 0, 199, 10 ** 29, 10 ** 29), 0)

    def test_all_small_ones_tick_by_tick(self):
        for wheel in SMALL_WHEELS:
            for field in (-8, -1, 0, 3, 10):
                for place in range(-12, 13):
                    for pull in range(6):
                        there = place
                        for ticks in range(8):
                            told = pulled(wheel, field, place, pull, ticks)
                            self.assertEqual(told, there, (wheel, field, place, pull, ticks))
                            there = pulled_once(wheel, field, there, pull)

    def test_kind_and_names(self):
        self.assertIs(type(pulled((400, 100), 0, -150, 20, 3)), int)
        self.assertEqual(pulled(ticks=3, pull=20, place=-150, field=0, wheel=(400, 100)), -90)


if __name__ == "__main__":
    unittest.main()
