"""Point [21]: what can be lost, and what is surely lost."""

import itertools
import random
import unittest

from poleslips.drives import even_drive, slowed
from poleslips.losses import can_keep, first_loss, first_risk, is_sure, kept_span
from poleslips.places import places
from poleslips.plays import play, slips
from support import HUGE, SIXTY, SMALL_WHEELS, all_ways, at_once, beginnings, some_way

WHEEL = (400, 100)
DRIVE = [(0, 2), (4, 1)]


def told_of(*call):
    return is_sure(*call), can_keep(*call), first_risk(*call), first_loss(*call)


class Texts(unittest.TestCase):
    def test_no_items(self):
        for low, high, start in [(0, 0, (-200, 199)), (5, 5, (-9, 9)), (0, 400, (0, 0)), (HUGE, HUGE, (199, 199))]:
            self.assertEqual(told_of(WHEEL, low, high, start, []), (True, True, None, None))

    def test_sure_possible_and_never(self):
        some = [(25, 30), (20, 30), (24, 25), (24, 24), (10, 20), (25, 25), (0, 25), (0, 24)]
        self.assertEqual([told_of(WHEEL, low, high, (0, 0), DRIVE) for low, high in some], [
            (True, True, None, None), (False, True, 1, None), (False, True, 1, None), (False, False, 1, 1),
            (False, False, 1, 1), (True, True, None, None), (False, True, 1, None), (False, False, 1, 1),
        ])

    def test_just_half_a_round(self):
        for wheel, fore, back in (((400, 100), 200, 199), ((401, 100), 200, 200)):
            for start, turn, told in [
                ((100 - fore, 0), 1, (None, None)), ((99 - fore, 0), 1, (0, None)), ((99 - fore, 99 - fore), 1, (0, 0)),
                ((0, back - 100), -1, (None, None)), ((0, back - 99), -1, (0, None)),
                ((back - 99, back - 99), -1, (0, 0)), ((-fore, back), 1, (0, None)), ((-fore, back), -1, (0, None)),
                ((-fore, back), 4, (0, 0 if wheel[0] % 2 == 0 else None)), ((0, 0), 5, (0, 0)), ((0, 0), -5, (0, 0)),
            ]:
                self.assertEqual(told_of(wheel, 0, 50, start, [(0, turn)])[2:], told, (wheel, start, turn))

    def test_what_is_gained_again_is_lost_for_good(self):
        drive = [(0, 3), (1, -3), (2, 1)]
        self.assertEqual(told_of(WHEEL, 0, 0, (0, 0), drive), (False, False, 0, 0))
        self.assertEqual([kept_span(WHEEL, 0, 0, (0, 0), drive, index) for index in range(3)], [None] * 3)

    def test_the_risk_comes_ahead_of_the_loss(self):
        # The quickest wheel keeps up to the third item, the slowest to the first one.
        drive = [(0, 2), (4, 1), (8, 2)]
        self.assertEqual(told_of(WHEEL, 20, 30, (0, 0), drive), (False, False, 1, 2))
        self.assertEqual([kept_span(WHEEL, 20, 30, (0, 0), drive, index) for index in range(3)],
                         [(0, 0), (100, 120), None])
        self.assertEqual(told_of(WHEEL, 20, 45, (0, 0), drive), (False, True, 1, None))
        self.assertEqual([kept_span(WHEEL, 20, 45, (0, 0), drive, index) for index in range(3)],
                         [(0, 0), (100, 180), (300, 300)])

    def test_spans_end_where_places_are_cut(self):
        # Ahead and back again: both ends are cut, each one at another item.
        drive = [(0, 2), (3, 1), (6, -3)]
        self.assertEqual([kept_span(WHEEL, 30, 60, (0, 0), drive, index) for index in range(3)],
                         [(0, 0), (100, 180), (190, 199)])
        slower = [(0, 1), (3, 1), (6, -3)]
        self.assertEqual([kept_span(WHEEL, 30, 60, (-10, 10), slower, index) for index in range(3)],
                         [(-10, 10), (80, 100), None])
        self.assertEqual([kept_span(WHEEL, 20, 30, (-5, 5), DRIVE, index) for index in range(2)], [(0, 5), (100, 125)])
        self.assertEqual(told_of(WHEEL, 30, 60, (0, 0), drive), (False, True, 1, None))

    def test_kinds_and_names(self):
        call = {"wheel": WHEEL, "low": 20, "high": 30, "start": (0, 0), "drive": DRIVE}
        self.assertIs(is_sure(**call), False)
        self.assertIs(can_keep(**call), True)
        self.assertIs(type(first_risk(**call)), int)
        self.assertIsNone(first_loss(**call))
        told = kept_span(**call, index=1)
        self.assertEqual((type(told), [type(number) for number in told]), (tuple, [int, int]))


class TickByTick(unittest.TestCase):
    """Small wheels, held against all ways."""

    def check(self, wheel, low, high, start, drive):
        call = wheel, low, high, start, drive
        _, _, kept, firsts = all_ways(*call, drive[-1][0] if drive else 0)
        risk = firsts.index(True) if True in firsts else None
        loss = next((index for index, some in enumerate(kept) if not some), None)
        self.assertEqual(told_of(*call), (risk is None, loss is None, risk, loss), call)
        for index, some in enumerate(kept):
            span = kept_span(*call, index)
            if some:
                self.assertEqual(span, (min(some), max(some)), (call, index))
                self.assertEqual(len(some), span[1] - span[0] + 1, (call, index))
            else:
                self.assertIsNone(span, (call, index))
        return risk, loss

    def starts(self, wheel):
        least, greatest = beginnings(wheel)[0], beginnings(wheel)[-1]
        return sorted({(0, 0), (least, least), (greatest, greatest), (-1, 1), (least, 0), (0, greatest - 1),
                       (least, greatest)})

    def test_short_drives(self):
        drives = [[]] + [[(tick, turn)] for tick in (0, 1, 3) for turn in (-3, -1, 1, 2)]
        drives += [[(0, one), (gap, other)] for one, other, gap in itertools.product((-1, 1, 2), (-3, -1, 1), (1, 2))]
        for wheel in SMALL_WHEELS:
            for low, high in ((0, 0), (1, 1), (0, 1), (1, 2), (2, 5), (0, 9)):
                for start in self.starts(wheel):
                    for drive in drives:
                        self.check(wheel, low, high, start, drive)

    def test_longer_drives(self):
        chosen = random.Random(21)
        risks, losses = set(), set()
        for _ in range(2500):
            size = chosen.randrange(3, 22)
            wheel = (size, chosen.randrange(1, min(4, (size - 1) // 2) + 1))
            ticks = sorted(chosen.sample(range(15), chosen.randrange(2, 7)))
            drive = [(tick, chosen.choice([-2, -1, 1, 1, 2])) for tick in ticks]
            low = chosen.randrange(4)
            start = tuple(sorted(chosen.choices(range(-(size // 4), size // 4 + 1), k=2)))
            risk, loss = self.check(wheel, low, low + chosen.randrange(4), start, drive)
            risks.add(risk)
            losses.add(loss)
        self.assertLessEqual({None, 0, 1, 2, 3, 4}, risks)
        self.assertLessEqual({None, 0, 1, 2, 3, 4}, losses)


class GreatNumbers(unittest.TestCase):
    """60 items and numbers of 28 digits, held against single plays and against a search backwards."""

    def test_one_pull_alone_and_one_beginning_place(self):
        wheel = (10 ** 29 + 1, HUGE)
        with at_once():
            for drive in (SIXTY, even_drive(60, 3, 1), even_drive(60, 3, -2), slowed(SIXTY, HUGE)):
                for pull, place in ((0, 0), (HUGE, 5), (7, -3 * HUGE), (HUGE // 4, 1 - HUGE)):
                    call = wheel, pull, pull, (place, place), drive
                    found = slips(wheel, pull, place, drive)
                    slip = found[0][0] if found else None
                    self.assertEqual(told_of(*call), (slip is None, slip is None, slip, slip))
                    for index, (_, there, _) in enumerate(play(wheel, pull, place, drive)):
                        kept = slip is None or index < slip
                        self.assertEqual(kept_span(*call, index), (there, there) if kept else None)

    def test_sixty_items_in_the_middle(self):
        # The slowest wheel falls back by HUGE // 10 a step, the quickest one keeps up.
        wheel, drive = (10 ** 29, HUGE), even_drive(60, 1, 1)
        with at_once():
            self.assertEqual(told_of(wheel, 9 * HUGE // 10, HUGE, (0, 0), drive), (False, True, 41, None))
            self.assertEqual(kept_span(wheel, 9 * HUGE // 10, HUGE, (0, 0), drive, 40), (36 * HUGE, 40 * HUGE))
            self.assertEqual(kept_span(wheel, 9 * HUGE // 10, HUGE, (0, 0), drive, 59), (55 * HUGE, 59 * HUGE))
            slower = wheel, 8 * HUGE // 10, 9 * HUGE // 10, (0, 0), drive
            self.assertEqual(told_of(*slower), (False, False, 21, 41))
            self.assertEqual([kept_span(*slower, index) for index in (40, 41, 42, 59)],
                             [(36 * HUGE, 36 * HUGE)] + [None] * 3)

    def test_backwards(self):
        chosen = random.Random(22)
        several = 0
        with at_once(60):
            for _ in range(400):
                size = chosen.randrange(10 ** 28, 10 ** 29)
                wheel = (size, chosen.randrange(1, size // 8))
                slow = 10 ** chosen.randrange(1, 27)
                gaps = [chosen.randrange(1, 4 * slow) for _ in range(chosen.choice([3, 8, 60]))]
                drive = [(tick, chosen.choice([-2, -1, 1, 2])) for tick in itertools.accumulate(gaps)]
                low = chosen.randrange(size // slow // 12)
                high = low + chosen.randrange(size // slow // 6)
                start = tuple(sorted(chosen.randrange(-(size // 3), size // 3) for _ in range(2)))
                several += self.check(wheel, low, high, start, drive)
        self.assertGreater(several, 50)

    def check(self, wheel, low, high, start, drive):
        call = wheel, low, high, start, drive
        spans = [kept_span(*call, index) for index in range(len(drive))]
        loss = spans.index(None) if None in spans else None
        self.assertEqual((can_keep(*call), first_loss(*call)), (loss is None, loss))
        if loss is not None:
            self.assertEqual(spans[loss:], [None] * (len(drive) - loss))
        risk = None
        for index, (tick, _) in enumerate(drive):
            if loss is not None and index > loss:
                break
            field = sum(turn for _, turn in drive[:index + 1]) * wheel[1]
            least, greatest = field - wheel[0] // 2, field + (wheel[0] - 1) // 2
            ends = [least, greatest] if spans[index] is None else spans[index]
            edges = [(ends[0] - 1, False), (ends[0], spans[index] is not None), (ends[1], spans[index] is not None),
                     (ends[1] + 1, False)]
            for place, kept in edges:
                found = least <= place <= greatest and some_way(*call, tick, place, True)
                self.assertIs(found, kept, (call, index, place))
            # Some way has its first slip here if a place beside the cut could be had.
            if risk is None and (spans[index] is None or some_way(*call, tick, ends[0] - 1, True)
                                 or some_way(*call, tick, ends[1] + 1, True)):
                risk = index
        self.assertEqual((is_sure(*call), first_risk(*call)), (risk is None, risk), call)
        if risk is None:
            self.assertEqual([[span] for span in spans], [places(*call, tick) for tick, _ in drive])
        return risk != loss


if __name__ == "__main__":
    unittest.main()
