"""What the document promises over the whole program: one part held against another."""

import itertools
import random
import unittest

from poleslips.console import Console
from poleslips.drives import delayed, even_drive, joined, slowed, total_turn, turned_back
from poleslips.errors import WheelError
from poleslips.keeping import kept_pulls
from poleslips.live import Follower
from poleslips.losses import can_keep, first_loss, first_risk, is_sure
from poleslips.papers import keep_paper, place_paper, play_loads, shows_keep, shows_place, shows_slip, slip_paper
from poleslips.places import final_places, lost_rounds, places
from poleslips.plays import is_kept, play, slips, stands_from, state_at
from poleslips.quickest import quickest_drive, quickest_tick, settled_tick, steps_by
from poleslips.sightings import fits, places_seen, sight_paper
from poleslips.slack import late_drive, slack
from poleslips.steady import first_slip, lost_behind
from poleslips.stops import play_stop, stop_places
from poleslips.texts import format_drive, format_loads, format_wheel, parse_drive, parse_loads, parse_wheel
from support import HUGE, SIXTY, at_once, beginnings


def chosen_case(chosen):
    """A small wheel, loads, a start and a drive."""
    size = chosen.randrange(3, 30)
    wheel = (size, chosen.randrange(1, (size - 1) // 2 + 1))
    low = chosen.randrange(5)
    start = tuple(sorted(chosen.choices(beginnings(wheel), k=2)))
    ticks = sorted(chosen.sample(range(20), chosen.randrange(7)))
    return wheel, low, low + chosen.randrange(4), start, [(tick, chosen.choice([-3, -1, 1, 1, 2])) for tick in ticks]


class Follow(unittest.TestCase):
    def test_a_follower_has_the_places_of_a_play(self):
        chosen = random.Random(1)
        for _ in range(300):
            wheel, pull, _, (place, _), drive = chosen_case(chosen)
            follower = Follower(wheel, place)
            follower.set_pull(pull, 0)
            for index, (tick, turn) in enumerate(drive):
                follower.turn(turn, tick)
                self.assertEqual((tick, follower.place, follower.lost), play(wheel, pull, place, drive)[index])
                self.assertEqual((follower.field, follower.place, follower.lost),
                                 state_at(wheel, pull, place, drive, tick))
            told = [(drive[index][0], rounds) for index, rounds in slips(wheel, pull, place, drive)]
            self.assertEqual(follower.slips, told)
            self.assertEqual(follower.would_be()[0], stands_from(wheel, pull, place, drive))

    def test_a_follower_has_the_places_of_loads(self):
        chosen = random.Random(2)
        for _ in range(300):
            wheel, _, _, (place, _), drive = chosen_case(chosen)
            loads = [(chosen.randrange(7), chosen.randrange(1, 6)) for _ in range(chosen.randrange(6))]
            begins = [sum(ticks for _, ticks in loads[:index]) for index in range(len(loads) + 1)]
            calls = [(tick, "set_pull", pull) for tick, pull in zip(begins, [pull for pull, _ in loads] + [0])]
            calls += [(tick, "turn", turn) for tick, turn in drive]
            follower, rows = Follower(wheel, place), []
            for tick, name, number in sorted(calls):
                getattr(follower, name)(number, tick)
                if name == "turn":
                    rows.append((tick, follower.place, follower.lost))
            self.assertEqual(rows, play_loads(wheel, loads, place, drive))

    def test_the_record_so_far(self):
        # Behind each call the follower is where `state_at` has the wheel with the turns so far.
        chosen = random.Random(3)
        for _ in range(100):
            wheel, pull, _, (place, _), drive = chosen_case(chosen)
            follower = Follower(wheel, place)
            follower.set_pull(pull, 0)
            for index, (tick, turn) in enumerate(drive):
                follower.wait(tick)
                self.assertEqual((follower.field, follower.place, follower.lost),
                                 state_at(wheel, pull, place, drive[:index], tick))
                follower.turn(turn, tick)
                self.assertEqual((follower.field, follower.place, follower.lost),
                                 state_at(wheel, pull, place, drive[:index + 1], tick))


class Ways(unittest.TestCase):
    def test_one_pull_and_one_place(self):
        chosen = random.Random(4)
        for _ in range(300):
            wheel, pull, _, (place, _), drive = chosen_case(chosen)
            call = wheel, pull, pull, (place, place), drive
            kept = is_kept(wheel, pull, place, drive)
            self.assertEqual((is_sure(*call), can_keep(*call)), (kept, kept))
            pulls = kept_pulls(wheel, place, drive, pull)
            self.assertEqual(pulls != [] and pulls[-1][1] == pull, kept)
            for tick in (0, 3, 7, 25):
                _, there, lost = state_at(wheel, pull, place, drive, tick)
                self.assertEqual((places(*call, tick), lost_rounds(*call, tick)), ([(there, there)], [lost]))
                self.assertEqual(places_seen(*call, [], tick), [(there, there)])

    def test_guarantees(self):
        # For each place, each loss that is possible and each drive that can be kept there is a paper.
        chosen = random.Random(5)
        seen = set()
        for _ in range(300):
            call = chosen_case(chosen)
            slipping, keeping = slip_paper(*call), keep_paper(*call)
            self.assertEqual((slipping is None, keeping is None), (is_sure(*call), not can_keep(*call)))
            self.assertEqual((first_risk(*call) is None, first_loss(*call) is None), (is_sure(*call), can_keep(*call)))
            if slipping is not None:
                self.assertIs(shows_slip(*call, slipping), True)
            if keeping is not None:
                self.assertIs(shows_keep(*call, keeping), True)
            seen.add((slipping is None, keeping is None))
            tick = chosen.randrange(25)
            for least, greatest in places(*call, tick):
                for place in range(least, greatest + 1):
                    paper = place_paper(*call, tick, place)
                    self.assertIs(shows_place(*call, tick, place, paper), True)
                    self.assertIs(fits(*call, [(tick, place, place)]), True)
                    self.assertEqual(parse_loads(format_loads(paper[1])), paper[1])
                self.assertIs(fits(*call, [(tick, least - 1, least - 1)]), False)
            self.assertIsNotNone(sight_paper(*call, [(tick, -99, 999)]))
        self.assertEqual(seen, {(True, False), (False, False), (False, True)})

    def test_equal_steps(self):
        for wheel, pull, every in itertools.product([(7, 2), (9, 4), (400, 100)], (0, 1, 2, 20), (1, 4)):
            for place in (beginnings(wheel)[0], 0, beginnings(wheel)[-1]):
                rows, drive = slips(wheel, pull, place, even_drive(60, every, 1)), even_drive(60, every, 1)
                first = first_slip(wheel, pull, every, place)
                self.assertEqual(rows[0][0] if rows else None, first if first is None or first < 60 else None)
                self.assertEqual(lost_behind(wheel, pull, every, place, 60), play(wheel, pull, place, drive)[-1][2])

    def test_a_stop_far_below(self):
        chosen = random.Random(6)
        for _ in range(200):
            wheel, low, high, start, drive = chosen_case(chosen)
            self.assertEqual(play_stop(wheel, low, start[0], -HUGE, drive),
                             [row[:2] for row in play(wheel, low, start[0], drive)])
            for tick in (0, 5, 25):
                self.assertEqual(stop_places(wheel, low, high, start, -HUGE, drive, tick),
                                 places(wheel, low, high, start, drive, tick))

    def test_the_quickest_drive_is_sure_and_has_slack_0(self):
        for wheel, low in itertools.product([(400, 100), (401, 90), (7, 2), (9, 4)], (1, 3, 20, 170)):
            for steps in (0, 1, 5, 20):
                drive = quickest_drive(wheel, low, 0, steps)
                self.assertIs(is_sure(wheel, low, low + wheel[0], (0, 0), drive), True)
                room = slack(wheel, low, drive)
                if steps * wheel[1] <= wheel[0] // 2:
                    self.assertIsNone(room)
                else:
                    self.assertGreaterEqual(room, 0)
                    self.assertIsNone(late_drive(wheel, low, drive, room))
                self.assertEqual(total_turn(drive), steps)
                self.assertEqual(stands_from(wheel, low, 0, drive), settled_tick(wheel, low, 0, steps))
                if steps > 0:
                    self.assertEqual(drive[-1][0], quickest_tick(wheel, low, 0, steps - 1))
                    self.assertGreaterEqual(steps_by(wheel, low, 0, drive[-1][0]), steps)


class Words(unittest.TestCase):
    def test_a_console_against_a_follower(self):
        chosen = random.Random(7)
        for _ in range(100):
            wheel, pull, _, (place, _), drive = chosen_case(chosen)
            console, follower = Console(), Follower(wheel, place)
            console.execute("wheel " + format_wheel(wheel))
            console.execute(f"start {place} {place}")
            console.execute(f"loads {pull} {pull}")
            follower.set_pull(pull, 0)
            for index, (tick, turn) in enumerate(drive):
                follower.turn(turn, tick)
                console.execute("drive " + format_drive(drive[:index + 1]))
                self.assertEqual(console.execute(f"at {tick}"), str(follower.place))
                self.assertEqual(console.execute("final"), str(follower.aim))
                self.assertEqual(console.execute(f"play {pull}").split(" ")[-1], str(follower.place))
                self.assertEqual(console.execute("risk"),
                                 str([at for at, _ in drive].index(follower.slips[0][0])) if follower.slips else "none")

    def test_returned_values_are_taken(self):
        for drive in (even_drive(60, HUGE, -HUGE), joined(SIXTY[:50], [(1, 1)]),
                      delayed(SIXTY, HUGE), slowed(SIXTY, 10 ** 27), turned_back(SIXTY),
                      quickest_drive((400, 7), 3, 0, 60)):
            self.assertEqual(parse_drive(format_drive(drive)), drive)
            self.assertEqual(len(play((401, 100), 7, 0, drive)), len(drive))
        wheel = parse_wheel("400/100")
        self.assertEqual(play_loads(wheel, parse_loads("20*4 30"), 0, parse_drive("0+2 4+1 6+1")),
                         [(0, 0, 0), (4, 80, 1), (6, 50, 1)])


class Times(unittest.TestCase):
    """All numbers times a number tell the same, where a wheel and the places of one pull are concerned."""

    def test_times(self):
        chosen = random.Random(8)
        with at_once():
            for _ in range(150):
                wheel, pull, _, (place, _), drive = chosen_case(chosen)
                for times in (2, 3, HUGE):
                    great = (wheel[0] * times, wheel[1] * times)
                    rows = [(tick, there * times, lost) for tick, there, lost in play(wheel, pull, place, drive)]
                    self.assertEqual(play(great, pull * times, place * times, drive), rows)
                    self.assertEqual(slips(great, pull * times, place * times, drive), slips(wheel, pull, place, drive))
                    late = [(tick * times, there, lost) for tick, there, lost in rows]
                    self.assertEqual(play(great, pull, place * times, slowed(drive, times)), late)
                    self.assertEqual(first_slip(great, pull * times, 3, place * times),
                                     first_slip(wheel, pull, 3, place))
                    call = great, pull * times, pull * times, (place * times, place * times), drive
                    self.assertEqual(final_places(*call), [
                        there * times for there in final_places(wheel, pull, pull, (place, place), drive)])
                    follower, other = Follower(wheel, place), Follower(great, place * times)
                    for tick, turn in drive:
                        for one, by in ((follower, 1), (other, times)):
                            one.set_pull(pull * by, tick)
                            one.turn(turn, tick)
                        self.assertEqual((other.place, other.aim, other.lost, other.slips),
                                         (follower.place * times, follower.aim * times, follower.lost, follower.slips))
                    stop = place - 2
                    rows = play_stop(wheel, pull, place, stop, drive)
                    self.assertEqual(play_stop(great, pull * times, place * times, stop * times, drive),
                                     [(tick, there * times) for tick, there in rows])


class OneBase(unittest.TestCase):
    def test_each_error_is_a_wheel_error(self):
        for call in [lambda: parse_wheel(""), lambda: Console().execute(""), lambda: Follower((400, 100), 200),
                     lambda: Follower((400, 100), 0).undo(), lambda: slack((400, 100), 20, [(0, 3)]),
                     lambda: joined(SIXTY, [(1, 1)]), lambda: play_loads((400, 100), [(0, 0)], 0, []),
                     lambda: fits((400, 100), 0, 0, (0, 0), [], [(0, 1, 0)])]:
            with self.assertRaises(WheelError) as told:
                call()
            self.assertEqual(type(told.exception).__bases__, (WheelError,))
            self.assertIsInstance(told.exception, ValueError)


if __name__ == "__main__":
    unittest.main()
