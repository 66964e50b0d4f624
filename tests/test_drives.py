"""Points [8], [12] and [13]: drives, fields, and new drives out of others."""

import itertools
import unittest

from poleslips.drives import delayed, even_drive, field_at, is_drive, joined, slowed, total_turn, turned_back
from poleslips.errors import InvalidNumber, TooLarge
from support import GOOD_DRIVES, HUGE, SIXTY, WRONG_DRIVES, at_once, outcome


class Drives(unittest.TestCase):
    def test_drives(self):
        for drive in GOOD_DRIVES:
            with self.subTest(drive=drive):
                self.assertIs(is_drive(drive), True)
                self.assertIs(is_drive(value=drive), True)

    def test_no_drives(self):
        for value, _ in WRONG_DRIVES:
            with self.subTest(value=value):
                self.assertIs(is_drive(value), False)

    def test_number_of_items(self):
        items = [(number, 1) for number in range(62)]
        self.assertEqual([is_drive(items[:many]) for many in (0, 1, 59, 60, 61, 62)], [True] * 4 + [False] * 2)

    def test_ticks_ascend(self):
        some = [
            [(0, 1), (1, 1)], [(1, 1), (1, 1)], [(2, 1), (1, 1)], [(0, 1), (9, 1), (5, 1)], [(0, 1), (9, 1), (10, 1)],
        ]
        self.assertEqual([is_drive(drive) for drive in some], [True, False, False, False, True])


class Fields(unittest.TestCase):
    def test_around_the_items(self):
        drive = [(3, 2), (5, -7), (HUGE, 4)]
        ticks = [0, 2, 3, 4, 5, 6, HUGE - 1, HUGE, HUGE + 1, 10 ** 29]
        self.assertEqual([field_at((400, 100), drive, tick) for tick in ticks],
                         [0, 0, 200, 200, -500, -500, -500, -100, -100, -100])
        self.assertEqual([field_at((3, 1), drive, tick) for tick in ticks], [0, 0, 2, 2, -5, -5, -5, -1, -1, -1])

    def test_at_tick_0(self):
        self.assertEqual([field_at((5, 2), [(0, -3)], tick) for tick in (0, 1, 10 ** 29)], [-6, -6, -6])
        self.assertEqual([field_at((5, 2), [(1, -3)], tick) for tick in (0, 1, 2)], [0, -6, -6])

    def test_no_items(self):
        self.assertEqual([field_at((400, 100), [], tick) for tick in (0, 5, 10 ** 29)], [0, 0, 0])

    def test_great_numbers_at_once(self):
        with at_once():
            drive = [(number * HUGE, HUGE + number) for number in range(60)]
            self.assertEqual(field_at((10 ** 29, HUGE), drive, 59 * HUGE - 1), HUGE * (59 * HUGE + 58 * 59 // 2))
            self.assertEqual(field_at((10 ** 29, HUGE), drive, 59 * HUGE), HUGE * (60 * HUGE + 59 * 60 // 2))

    def test_against_a_sum(self):
        for drive in GOOD_DRIVES:
            ticks = sorted({tick + beside for tick, _ in drive for beside in (-1, 0, 1) if tick + beside >= 0} | {0})
            for tick in ticks:
                field = 0
                for at, turn in drive:
                    if at <= tick:
                        field += turn * 57
                self.assertEqual(field_at((400, 57), drive, tick), field, (drive, tick))

    def test_total_turn(self):
        self.assertEqual(total_turn([]), 0)
        self.assertEqual(total_turn([(4, -9)]), -9)
        self.assertEqual(total_turn([(0, 2), (4, -2)]), 0)
        self.assertEqual(total_turn([(0, HUGE), (HUGE, HUGE), (2 * HUGE, 1)]), 2 * HUGE + 1)
        self.assertEqual(total_turn(SIXTY), sum(turn for _, turn in SIXTY))
        self.assertEqual([type(total_turn(drive)) for drive in ([], SIXTY)], [int, int])


class EvenDrives(unittest.TestCase):
    def test_items(self):
        self.assertEqual(even_drive(4, 1, 1), [(0, 1), (1, 1), (2, 1), (3, 1)])
        self.assertEqual(even_drive(1, 10 ** 29, -10 ** 29), [(0, -10 ** 29)])
        self.assertEqual(even_drive(2, HUGE, HUGE), [(0, HUGE), (HUGE, HUGE)])
        self.assertEqual(even_drive(turn=-1, every=3, count=2), [(0, -1), (3, -1)])

    def test_least_and_greatest_count(self):
        self.assertEqual(even_drive(0, 5, 3), [])
        self.assertEqual(even_drive(60, 7, -1), [(7 * number, -1) for number in range(60)])
        self.assertEqual(outcome(even_drive, [61, 7, -1]), (InvalidNumber, {}))
        self.assertEqual(outcome(even_drive, [-1, 7, -1]), (InvalidNumber, {}))

    def test_wrong_numbers_without_items(self):
        self.assertEqual(outcome(even_drive, [0, 0, 1]), (InvalidNumber, {}))
        self.assertEqual(outcome(even_drive, [0, 1, 0]), (InvalidNumber, {}))

    def test_all_are_drives(self):
        for count, every, turn in itertools.product((0, 1, 2, 59, 60), (1, 2, HUGE), (-HUGE, -1, 1, HUGE)):
            drive = even_drive(count, every, turn)
            self.assertIs(is_drive(drive), True)
            self.assertEqual((len(drive), total_turn(drive)), (count, count * turn))
            self.assertEqual([tick for tick, _ in drive], [every * number for number in range(count)])


class Joined(unittest.TestCase):
    def both_ways(self, one, other, result):
        self.assertEqual(joined(one, other), result)
        self.assertEqual(joined(other, one), result)
        self.assertEqual(joined(other=other, one=one), result)

    def test_different_ticks(self):
        self.both_ways([(0, 1), (4, 2)], [(1, -1), (9, 5)], [(0, 1), (1, -1), (4, 2), (9, 5)])
        self.both_ways([(10, 1), (14, 2)], [(1, -1), (9, 5)], [(1, -1), (9, 5), (10, 1), (14, 2)])
        self.both_ways([(9, 1)], [(10, 1)], [(9, 1), (10, 1)])

    def test_same_ticks(self):
        self.both_ways([(0, 1), (4, 2)], [(0, 3), (4, -5)], [(0, 4), (4, -3)])
        self.both_ways([(4, 2)], [(0, 1), (4, 2), (5, 2)], [(0, 1), (4, 4), (5, 2)])
        self.both_ways([(HUGE, HUGE)], [(HUGE, HUGE), (HUGE + 1, 1)], [(HUGE, 2 * HUGE), (HUGE + 1, 1)])

    def test_sums_of_0(self):
        self.both_ways([(0, 1)], [(0, -1)], [])
        self.both_ways([(0, 1), (4, 2), (5, 1)], [(4, -2)], [(0, 1), (5, 1)])
        self.both_ways([(0, 1), (4, 2), (5, 1)], [(0, -1), (4, 1), (5, -1)], [(4, 3)])
        self.both_ways(SIXTY, [(tick, -turn) for tick, turn in SIXTY], [])

    def test_empty_ones(self):
        self.both_ways([], [], [])
        self.both_ways([], SIXTY, SIXTY)

    def test_one_drive_twice(self):
        drive = [(0, 1), (4, -2)]
        self.assertEqual(joined(drive, drive), [(0, 2), (4, -4)])
        self.assertEqual(drive, [(0, 1), (4, -2)])
        self.assertEqual(joined(SIXTY, SIXTY), [(tick, 2 * turn) for tick, turn in SIXTY])

    def test_sixty_items(self):
        odd = [(2 * number + 1, 1) for number in range(31)]
        even = [(2 * number, 1) for number in range(30)]
        self.both_ways(odd[:30], even, [(number, 1) for number in range(60)])
        self.assertEqual(outcome(joined, [odd, even]), (TooLarge, {"limit": 60}))
        self.assertEqual(outcome(joined, [even, odd]), (TooLarge, {"limit": 60}))
        self.assertEqual(outcome(joined, [SIXTY, [(1, 1)]]), (TooLarge, {"limit": 60}))
        self.assertEqual(outcome(joined, [SIXTY, [(tick + 1, 1) for tick, _ in SIXTY]]), (TooLarge, {"limit": 60}))

    def test_items_that_are_left_out_do_not_count(self):
        tick, turn = SIXTY[30]
        result = sorted([item for item in SIXTY if item[0] != tick] + [(tick + 1, 5)])
        self.both_ways(SIXTY, [(tick, -turn), (tick + 1, 5)], result)
        self.assertEqual(len(result), 60)
        self.both_ways(SIXTY, [(tick, -turn)], [item for item in SIXTY if item[0] != tick])
        self.both_ways(SIXTY, [(tick, turn)], [(at, many + turn * (at == tick)) for at, many in SIXTY])
        self.assertEqual(outcome(joined, [SIXTY, [(tick, turn), (tick + 1, 5)]]), (TooLarge, {"limit": 60}))

    def test_fields_add_up(self):
        drives = [drive for drive in GOOD_DRIVES if len(drive) < 60]
        for one, other in itertools.product(drives, drives):
            both = joined(one, other)
            self.assertIs(is_drive(both), True)
            self.assertEqual(total_turn(both), total_turn(one) + total_turn(other))
            for tick in sorted({tick for tick, _ in one + other}):
                fields = [field_at((3, 1), drive, tick) for drive in (one, other, both)]
                self.assertEqual(fields[0] + fields[1], fields[2])


class Changed(unittest.TestCase):
    def test_delayed(self):
        drive = [(0, 1), (4, -2), (5, 3)]
        self.assertEqual(delayed(drive, 0), drive)
        self.assertEqual(delayed(drive, 1), [(1, 1), (5, -2), (6, 3)])
        self.assertEqual(delayed(by=10 ** 29, drive=drive), [(10 ** 29, 1), (10 ** 29 + 4, -2), (10 ** 29 + 5, 3)])
        self.assertEqual(delayed([], 7), [])
        self.assertEqual(delayed(SIXTY, 2), [(tick + 2, turn) for tick, turn in SIXTY])
        self.assertEqual(outcome(delayed, [drive, -1]), (InvalidNumber, {}))
        self.assertEqual(outcome(delayed, [[], -1]), (InvalidNumber, {}))

    def test_slowed(self):
        drive = [(0, 1), (4, -2), (5, 3)]
        self.assertEqual(slowed(drive, 1), drive)
        self.assertEqual(slowed(drive, 2), [(0, 1), (8, -2), (10, 3)])
        self.assertEqual(slowed(by=10 ** 29, drive=drive), [(0, 1), (4 * 10 ** 29, -2), (5 * 10 ** 29, 3)])
        self.assertEqual(slowed([], 7), [])
        self.assertEqual(slowed(SIXTY, 3), [(3 * tick, turn) for tick, turn in SIXTY])
        self.assertEqual(outcome(slowed, [drive, 0]), (InvalidNumber, {}))
        self.assertEqual(outcome(slowed, [[], 0]), (InvalidNumber, {}))

    def test_turned_back(self):
        self.assertEqual(turned_back([(0, 1), (4, -2), (5, HUGE)]), [(0, -1), (4, 2), (5, -HUGE)])
        self.assertEqual(turned_back([]), [])
        self.assertEqual(turned_back(drive=SIXTY), [(tick, -turn) for tick, turn in SIXTY])

    def test_what_they_are_for_each_other(self):
        for drive in GOOD_DRIVES:
            self.assertEqual(turned_back(turned_back(drive)), drive)
            self.assertEqual(joined(drive, turned_back(drive)), [])
            self.assertEqual(delayed(delayed(drive, 3), 5), delayed(drive, 8))
            self.assertEqual(slowed(slowed(drive, 3), 5), slowed(drive, 15))
            for changed in (turned_back(drive), delayed(drive, 3), slowed(drive, 3)):
                self.assertIs(is_drive(changed), True)


if __name__ == "__main__":
    unittest.main()
