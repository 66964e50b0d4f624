"""Points [10], [19] and [20]: where the wheel can be if the pull of each tick is any integer from low to high."""

import itertools
import random
import unittest

from poleslips.drives import even_drive, field_at, slowed
from poleslips.places import final_places, lost_rounds, places
from poleslips.plays import play, state_at
from poleslips.wheels import aim_of
from support import HUGE, SIXTY, SMALL_WHEELS, all_ways, as_few, at_once, beginnings, some_way
from support import lost_rounds as lost_one, nearest

WHEEL = (400, 100)
DRIVE = [(0, 2), (4, 1)]


class Texts(unittest.TestCase):
    def test_text_of_point_19(self):
        # Places from 100 to 120 have the aim 300, those from 80 to 99 the aim -100.
        self.assertEqual([aim_of(WHEEL, 300, place) for place in (80, 99, 100, 120)], [-100, -100, 300, 300])
        self.assertEqual(places(WHEEL, 20, 30, (0, 0), DRIVE, 5), [(50, 79), (120, 150)])

    def test_no_items(self):
        self.assertEqual([final_places(WHEEL, low, high, start, [])
                          for low, high, start in [(0, 0, (-200, 199)), (5, 5, (-9, 9)), (0, 400, (0, 0))]], [[0]] * 3)
        self.assertEqual([places(WHEEL, 5, 10, (-30, 60), [], tick) for tick in (0, 1, 2, 6, 11, 12, 10 ** 29)],
                         [[(-30, 60)], [(-25, 55)], [(-20, 50)], [(0, 30)], [(0, 5)], [(0, 0)], [(0, 0)]])
        self.assertEqual([lost_rounds(WHEEL, 5, 10, (-200, 199), [], tick) for tick in (0, 1, HUGE)], [[0]] * 3)


class Stretches(unittest.TestCase):
    def test_on_both_sides_of_the_aim(self):
        drive = [(0, 1)]
        told = [places(WHEEL, 10, 20, start, drive, 2) for start in [(0, 0), (60, 60), (70, 130), (100, 100), (99, 101),
                                                                   (150, 190)]]
        self.assertEqual(told, [[(20, 40)], [(80, 100)], [(90, 110)], [(100, 100)], [(100, 100)], [(110, 170)]])

    def test_no_pull_and_one_pull_alone(self):
        self.assertEqual([places(WHEEL, 0, 0, (-5, 7), DRIVE, tick) for tick in (0, 4, 5, HUGE)], [[(-5, 7)]] * 4)
        self.assertEqual([places(WHEEL, 20, 20, (0, 0), DRIVE, tick) for tick in (4, 5, 9)],
                         [[(80, 80)], [(60, 60)], [(-20, -20)]])
        self.assertEqual([places(WHEEL, 0, 20, (0, 0), DRIVE, tick) for tick in (4, 5, 9, 10, HUGE)],
                         [[(0, 80)], [(-20, 80)], [(-100, 80)], [(-100, 80)], [(-100, 80)]])
        self.assertEqual([places(WHEEL, 0, 30, (0, 0), DRIVE, tick) for tick in (4, 5, HUGE)],
                         [[(0, 120)], [(-30, 150)], [(-100, 300)]])

    def test_just_half_a_round_on_both_sides(self):
        # A wheel may be back ahead of the field, and fore behind it.
        for wheel, fore, back in (((400, 100), 200, 199), ((401, 100), 200, 200)):
            for start, turn, lost in [
                ((100 - fore, 0), 1, [0]), ((99 - fore, 0), 1, [0, 1]), ((99 - fore, 99 - fore), 1, [1]),
                ((0, back - 100), -1, [0]), ((0, back - 99), -1, [-1, 0]), ((back - 99, back - 99), -1, [-1]),
                ((-fore, back), 1, [0, 1]), ((-fore, back), -1, [-1, 0]),
            ]:
                for low, high in ((0, 0), (0, 50), (50, 60)):
                    told = lost_rounds(wheel, low, high, start, [(0, turn)], 0)
                    self.assertEqual(told, lost, (wheel, start, turn))
        self.assertEqual(lost_rounds((400, 100), 0, 50, (-200, 199), [(0, 4)], 0), [1])
        self.assertEqual(lost_rounds((401, 100), 0, 50, (-200, 200), [(0, 4)], 0), [0, 1])

    def test_places_with_two_aims_go_apart(self):
        self.assertEqual(places(WHEEL, 7, 9, (-110, -90), [(0, 1)], 1), [(-119, -108), (-93, -81)])
        self.assertEqual(places(WHEEL, 0, 9, (-110, -90), [(0, 1)], 1), [(-119, -81)])
        self.assertEqual(places(WHEEL, 1, 9, (-101, -100), [(0, 1)], 1), [(-110, -102), (-99, -91)])
        self.assertEqual(places(WHEEL, 7, 9, (-100, -90), [(0, 1)], 1), [(-93, -81)])
        self.assertEqual(places(WHEEL, 7, 9, (90, 110), [(0, -1)], 1), [(81, 92), (107, 119)])
        self.assertEqual(places(WHEEL, 7, 9, (90, 99), [(0, -1)], 1), [(81, 92)])

    def test_neighbours_are_one_stretch(self):
        # At tick 1 there are two stretches, and the field is back. At tick 2 they meet, or do not.
        drive = [(0, 1), (1, -1)]
        self.assertEqual([places(WHEEL, 7, high, (-110, -90), drive, 2) for high in (7, 8, 20, 21, 22)], [
            [(-110, -101), (-86, -76)], [(-111, -100), (-86, -74)], [(-123, -88), (-86, -50)], [(-124, -48)],
            [(-125, -46)],
        ])
        self.assertEqual([places(WHEEL, 1, high, (-101, -100), drive, 2) for high in (1, 2, 3, 4)],
                         [[(-101, -101), (-98, -98)], [(-102, -100), (-98, -96)], [(-103, -94)], [(-104, -92)]])

    def test_several_aims_at_once(self):
        # The quickest wheel is at the field at each item. One that stays at 0 falls back in the field 300, to -100 at
        # most, and may stay there: in the field 600 the places below 0 have the aim -200.
        drive = even_drive(6, 4, 1)
        self.assertEqual([places(WHEEL, 0, 25, (0, 0), drive, tick) for tick in (8, 12, 16, 20, 24, HUGE)],
                         [[(0, 200)], [(-100, 300)], [(-100, 400)], [(-100, 500)], [(-200, 600)], [(-200, 600)]])
        self.assertEqual([lost_rounds(WHEEL, 0, 25, (0, 0), drive, tick) for tick in (4, 8, 12, 16, 20)],
                         [[0], [0, 1], [0, 1], [0, 1], [0, 1, 2]])
        self.assertEqual(final_places(WHEEL, 0, 25, (0, 0), drive), [-200, 200, 600])

    def test_ticks_beside_an_item(self):
        self.assertEqual([lost_rounds(WHEEL, 20, 30, (0, 0), DRIVE, tick) for tick in (0, 3, 4, 5, HUGE)],
                         [[0], [0], [0, 1], [0, 1], [0, 1]])
        self.assertEqual([places(WHEEL, 20, 30, (0, 0), DRIVE, tick) for tick in (3, 4, 5)],
                         [[(60, 90)], [(80, 120)], [(50, 79), (120, 150)]])

    def test_kinds_and_names(self):
        told = places(wheel=WHEEL, low=20, high=30, start=(0, 0), drive=DRIVE, tick=5)
        self.assertIs(type(told), list)
        for stretch in told:
            self.assertEqual((type(stretch), [type(number) for number in stretch]), (tuple, [int, int]))
        for told in (lost_rounds(wheel=WHEEL, low=20, high=30, start=(0, 0), drive=DRIVE, tick=5),
                     final_places(wheel=WHEEL, low=20, high=30, start=(0, 0), drive=DRIVE)):
            self.assertEqual((type(told), [type(number) for number in told]), (list, [int, int]))


class TickByTick(unittest.TestCase):
    """Small wheels, held against all beginning places and all pulls."""

    def check(self, wheel, low, high, start, drive):
        call = wheel, low, high, start, drive
        end = drive[-1][0] if drive else 0
        # A round later all is as it stays, whatever the pulls are.
        last = end + wheel[0] + 1
        fields, where, _, _ = all_ways(*call, last)
        ticks = sorted({0, 1, 2, end + 1, end + 3, last} | {tick for tick, _ in drive}
                       | {tick + 1 for tick, _ in drive} | {tick - 1 for tick, _ in drive if tick})
        for tick in ticks:
            lost = sorted({lost_one(wheel, fields[tick], place) for place in where[tick]})
            self.assertEqual(places(*call, tick), as_few(where[tick]), (call, tick))
            self.assertEqual(lost_rounds(*call, tick), lost, (call, tick))
        for tick in (last + 1, HUGE, 10 ** 30 - 1):
            self.assertEqual(places(*call, tick), as_few(where[last]), (call, tick))
            self.assertEqual(lost_rounds(*call, tick), lost, (call, tick))
        told = final_places(*call)
        self.assertEqual(told, sorted({nearest(wheel, fields[end], place) for place in where[end]}), call)
        if low > 0:
            # Where the wheel comes to stand.
            self.assertEqual(as_few(told), as_few(where[last]), call)
        return len(told), len(places(*call, end + 1))

    def starts(self, wheel):
        least, greatest = beginnings(wheel)[0], beginnings(wheel)[-1]
        return sorted({(0, 0), (least, least), (greatest, greatest), (-1, 1), (least, 0), (0, greatest - 1),
                       (least, greatest)})

    def test_short_drives(self):
        drives = [[]] + [[(tick, turn)] for tick in (0, 1, 3) for turn in (-3, -1, 1, 2)]
        drives += [[(0, one), (gap, other)] for one, other, gap in itertools.product((-2, 1, 2), (-3, -1, 1), (1, 2))]
        for wheel in SMALL_WHEELS:
            for low, high in ((0, 0), (1, 1), (0, 1), (1, 2), (2, 5), (0, 9)):
                for start in self.starts(wheel):
                    for drive in drives[(low + high + start[0]) % 3::3]:
                        self.check(wheel, low, high, start, drive)

    def test_longer_drives(self):
        chosen = random.Random(19)
        aims, stretches = set(), set()
        for _ in range(700):
            size = chosen.randrange(3, 22)
            wheel = (size, chosen.randrange(1, (size - 1) // 2 + 1))
            ticks = sorted(chosen.sample(range(12), chosen.randrange(2, 6)))
            drive = [(tick, chosen.choice([-5, -3, -2, -1, 1, 1, 2, 3])) for tick in ticks]
            low = chosen.randrange(4)
            start = tuple(sorted(chosen.choices(beginnings(wheel), k=2)))
            many = self.check(wheel, low, low + chosen.randrange(4), start, drive)
            aims.add(many[0])
            stretches.add(many[1])
        # One aim, two and more at once, and one stretch, two and more.
        self.assertLessEqual({1, 2, 3}, aims)
        self.assertLessEqual({1, 2, 3}, stretches)


class GreatNumbers(unittest.TestCase):
    """60 items and numbers of 28 digits, held against single plays and against a search backwards."""

    def test_one_pull_alone_and_one_beginning_place(self):
        wheel = (10 ** 29 + 1, HUGE)
        with at_once():
            for drive in (SIXTY, even_drive(60, 3, HUGE), even_drive(60, HUGE, -1), slowed(SIXTY, HUGE)):
                for pull, place in ((0, 0), (HUGE, 5), (7, -3 * HUGE), (10 ** 27, 1 - HUGE)):
                    for tick in (0, 1, 50, drive[30][0], drive[-1][0], 10 ** 30):
                        _, there, lost = state_at(wheel, pull, place, drive, tick)
                        call = wheel, pull, pull, (place, place), drive
                        self.assertEqual(places(*call, tick), [(there, there)])
                        self.assertEqual(lost_rounds(*call, tick), [lost])
                    _, there, _ = play(wheel, pull, place, drive)[-1]
                    aim = aim_of(wheel, field_at(wheel, drive, drive[-1][0]), there)
                    self.assertEqual(final_places(*call), [aim])

    def test_a_document_example_times_a_number(self):
        wheel = (400 * HUGE, 100 * HUGE)
        with at_once():
            told = [places(wheel, 20 * HUGE, 30 * HUGE, (0, 0), DRIVE, tick) for tick in (4, 5, 40)]
            self.assertEqual(told, [
                [(80 * HUGE, 120 * HUGE)], [(50 * HUGE, 80 * HUGE - 1), (120 * HUGE, 150 * HUGE)],
                [(-100 * HUGE, -100 * HUGE), (300 * HUGE, 300 * HUGE)],
            ])
            told = [places(wheel, 20, 30, (0, 0), slowed(DRIVE, HUGE), tick * HUGE) for tick in (4, 5, 40)]
            self.assertEqual(told, [
                [(80 * HUGE, 120 * HUGE)], [(50 * HUGE, 80 * HUGE - 1), (120 * HUGE, 150 * HUGE)],
                [(-100 * HUGE, -100 * HUGE), (300 * HUGE, 300 * HUGE)],
            ])
            self.assertEqual(lost_rounds(wheel, 20, 30, (0, 0), slowed(DRIVE, HUGE), 4 * HUGE - 1), [0])
            self.assertEqual(lost_rounds(wheel, 20, 30, (0, 0), slowed(DRIVE, HUGE), 4 * HUGE), [0, 1])

    def test_backwards(self):
        chosen = random.Random(27)
        many = set()
        with at_once(120):
            for _ in range(250):
                size = chosen.randrange(10 ** 28, 10 ** 29)
                wheel = (size, chosen.randrange(1, size // 2))
                slow = 10 ** chosen.randrange(1, 27)
                gaps = [chosen.randrange(1, 4 * slow) for _ in range(chosen.choice([3, 8, 60]))]
                ticks = list(itertools.accumulate(gaps))
                drive = [(tick, chosen.choice([-3, -1, 1, 2])) for tick in ticks]
                low = chosen.randrange(size // slow // 6)
                high = low + chosen.randrange(size // slow // 6)
                start = tuple(sorted(chosen.randrange(-(size // 2), (size + 1) // 2) for _ in range(2)))
                tick = chosen.choice([ticks[-1], ticks[-1] + slow, ticks[len(ticks) // 2], ticks[2] + 1])
                many.add(self.check(wheel, low, high, start, drive, tick))
        self.assertLessEqual({1, 2, 3}, many)

    def check(self, wheel, low, high, start, drive, tick):
        call = wheel, low, high, start, drive, tick
        told = places(*call)
        for least, greatest in told[:12]:
            self.assertLessEqual(least, greatest)
            for place, inside in [(least - 1, False), (least, True), ((least + greatest) // 2, True), (greatest, True),
                                  (greatest + 1, False)]:
                self.assertIs(some_way(*call, place), inside, (call, place))
        for one, other in itertools.pairwise(told):
            self.assertLess(one[1] + 1, other[0])
            self.assertIs(some_way(*call, (one[1] + other[0]) // 2), False)
        self.assertIs(some_way(*call, told[0][0] - wheel[0] // 3), False)
        self.assertIs(some_way(*call, told[-1][1] + wheel[0] // 3), False)
        return len(told)


if __name__ == "__main__":
    unittest.main()
