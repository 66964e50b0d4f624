"""Points [31] to [33]: a live wheel."""

import random
import unittest

from poleslips.errors import InvalidNumber, InvalidPlace, InvalidPull, InvalidTick, InvalidWheel, NothingToUndo
from poleslips.live import Follower
from support import (
    HUGE, NO_NUMBERS, SMALL_WHEELS, WRONG_WHEELS, at_once, beginnings, lost_rounds, nearest, outcome, pulled_once,
)

WHEEL = (400, 100)
NAMES = ("tick", "field", "pull", "place", "aim", "lost", "slips", "log")


def state_of(follower):
    """All that a follower tells of itself."""
    return tuple(getattr(follower, name) for name in NAMES) + (len(follower), follower.would_be())


class Record:
    """What was told so far; the wheel is pulled anew from tick 0 on, tick by tick, each time it is asked for."""

    def __init__(self, wheel, place):
        self.wheel, self.begin, self.log = wheel, place, []

    def state(self):
        field, place, pull, slips = 0, self.begin, 0, []
        last = self.log[-1][-1] if self.log else 0
        for tick in range(last + 1):
            before = lost_rounds(self.wheel, field, place)
            for call in self.log:
                if call[-1] == tick and call[0] == "turn":
                    field += call[1] * self.wheel[1]
                elif call[-1] == tick and call[0] == "pull":
                    pull = call[1]
            rounds = lost_rounds(self.wheel, field, place) - before
            if rounds:
                slips.append((tick, rounds))
            if tick < last:
                place = pulled_once(self.wheel, field, place, pull)
        aim = nearest(self.wheel, field, place)
        return (last, field, pull, place, aim, lost_rounds(self.wheel, field, place), slips, list(self.log),
                len(self.log), self.would_be(last, field, place, pull))

    def would_be(self, tick, field, place, pull):
        for later in range(tick, tick + self.wheel[0] + 1):
            if nearest(self.wheel, field, place) == place:
                return later, place
            there = pulled_once(self.wheel, field, place, pull)
            if there == place:
                return None, place
            place = there
        raise AssertionError("the wheel goes on for ever")

    def copy(self):
        other = Record(self.wheel, self.begin)
        other.log = list(self.log)
        return other


class TickByTick(unittest.TestCase):
    """Calls in any sequence, held against a wheel that is pulled tick by tick."""

    def call(self, chosen, follower, record):
        """One call of both."""
        now = record.log[-1][-1] if record.log else 0
        tick = now + chosen.choice([0, 0, 0, 1, 1, 2, 5])
        what = chosen.choice(["turn", "turn", "turn", "pull", "wait", "undo"])
        if what == "undo":
            if record.log:
                record.log.pop()
                self.assertIsNone(follower.undo())
            else:
                self.assertRaises(NothingToUndo, follower.undo)
        elif what == "turn":
            steps = chosen.choice([-5, -2, -1, 1, 1, 2, 3])
            record.log.append(("turn", steps, tick))
            self.assertIsNone(follower.turn(steps, tick))
        elif what == "pull":
            pull = chosen.choice([0, 1, 2, 3, 9])
            record.log.append(("pull", pull, tick))
            self.assertIsNone(follower.set_pull(pull, tick))
        else:
            record.log.append(("wait", tick))
            self.assertIsNone(follower.wait(tick))

    def test_any_sequence(self):
        chosen = random.Random(31)
        slipped = never = 0
        for _ in range(250):
            size = chosen.randrange(3, 25)
            wheel = (size, chosen.randrange(1, (size - 1) // 2 + 1))
            place = chosen.choice(beginnings(wheel))
            follower, record = Follower(wheel, place), Record(wheel, place)
            self.assertEqual(state_of(follower), record.state())
            for _ in range(chosen.randrange(40)):
                self.call(chosen, follower, record)
                state = record.state()
                self.assertEqual(state_of(follower), state, (wheel, place, record.log))
                slipped += len(state[6]) > 1
                never += state[-1][0] is None
        self.assertGreater(slipped, 500)
        self.assertGreater(never, 200)

    def test_forks(self):
        chosen = random.Random(33)
        for _ in range(60):
            wheel = chosen.choice(SMALL_WHEELS + [WHEEL])
            place = chosen.choice(beginnings(wheel))
            pairs = [(Follower(wheel, place), Record(wheel, place))]
            for _ in range(60):
                follower, record = chosen.choice(pairs)
                if chosen.random() < 0.1 and len(pairs) < 6:
                    other = follower.fork()
                    self.assertIs(type(other), Follower)
                    self.assertEqual(state_of(other), record.state())
                    pairs.append((other, record.copy()))
                else:
                    self.call(chosen, follower, record)
                for one, its in pairs:
                    self.assertEqual(state_of(one), its.state())
                for other, its in pairs:
                    self.assertIs(follower == other, record.log == its.log)

    def test_would_be_is_what_comes(self):
        chosen = random.Random(3)
        for _ in range(300):
            size = chosen.randrange(3, 40)
            wheel = (size, chosen.randrange(1, (size - 1) // 2 + 1))
            follower, record = Follower(wheel, chosen.choice(beginnings(wheel))), Record(wheel, 0)
            for _ in range(chosen.randrange(8)):
                self.call(chosen, follower, record)
            before = state_of(follower)
            tick, place = follower.would_be()
            self.assertEqual(state_of(follower), before)
            if tick is None:
                other = follower.fork()
                other.wait(follower.tick + 1000)
                self.assertEqual((other.place, follower.place), (place, place))
                self.assertNotEqual(other.aim, place)
                continue
            there = follower.fork()
            there.wait(tick)
            self.assertEqual((there.place, there.aim, there.would_be()), (place, place, (tick, place)))
            if tick > follower.tick:
                ahead = follower.fork()
                ahead.wait(tick - 1)
                self.assertNotEqual(ahead.place, place)


class Texts(unittest.TestCase):
    def test_a_new_follower(self):
        for wheel in SMALL_WHEELS + [WHEEL, (10 ** 29 + 1, HUGE)]:
            for place in (beginnings(wheel)[0], 0, beginnings(wheel)[-1]):
                follower = Follower(wheel=wheel, place=place)
                wanted = (0, place) if place == 0 else (None, place)
                self.assertEqual(state_of(follower), (0, 0, 0, place, 0, 0, [], [], 0, wanted))

    def test_the_pull_of_the_present_tick_is_not_done(self):
        follower = Follower(WHEEL, 0)
        follower.turn(1, 0)
        follower.set_pull(20, 0)
        self.assertEqual((follower.place, follower.would_be()), (0, (5, 100)))
        follower.set_pull(7, 0)
        follower.set_pull(30, 0)
        follower.wait(1)
        self.assertEqual((follower.place, follower.pull), (30, 30))
        # A pull that is set later changes nothing of what was.
        follower.set_pull(1, 3)
        self.assertEqual((follower.place, follower.pull, follower.would_be()), (90, 1, (13, 100)))
        follower.wait(4)
        self.assertEqual(follower.place, 91)

    def test_turns_of_one_tick_add_up(self):
        follower = Follower(WHEEL, 0)
        follower.turn(3, 5)
        self.assertEqual((follower.slips, follower.lost, follower.aim), ([(5, 1)], 1, -100))
        follower.turn(-1, 5)
        self.assertEqual((follower.slips, follower.lost, follower.aim), ([], 0, 200))
        follower.turn(-4, 5)
        self.assertEqual((follower.slips, follower.lost, follower.aim), ([(5, -1)], -1, 200))
        follower.turn(2, 5)
        follower.wait(6)
        self.assertEqual((follower.slips, follower.lost, follower.aim, follower.field), ([], 0, 0, 0))
        follower.turn(10 ** 20, 7)
        follower.turn(1, 9)
        self.assertEqual(follower.slips, [(7, 25 * 10 ** 18)])
        follower.turn(2, 9)
        follower.turn(-10 ** 20, 10)
        self.assertEqual(follower.slips, [(7, 25 * 10 ** 18), (9, 1), (10, -25 * 10 ** 18)])

    def test_a_slip_that_is_gained_again(self):
        follower = Follower(WHEEL, 0)
        follower.turn(3, 1)
        follower.turn(-3, 2)
        self.assertEqual((follower.slips, follower.lost), ([(1, 1), (2, -1)], 0))
        follower.undo()
        self.assertEqual((follower.slips, follower.lost), ([(1, 1)], 1))
        follower.undo()
        self.assertEqual((follower.slips, follower.lost, follower.tick), ([], 0, 0))

    def test_undo_takes_back_the_present_tick(self):
        follower = Follower(WHEEL, 50)
        follower.set_pull(10, 3)
        follower.wait(7)
        follower.turn(1, 7)
        states = []
        for _ in range(3):
            states.append((follower.tick, follower.place, follower.field, follower.pull, len(follower)))
            follower.undo()
        self.assertEqual(states, [(7, 10, 100, 10, 3), (7, 10, 0, 10, 2), (3, 50, 0, 10, 1)])
        self.assertEqual(state_of(follower), state_of(Follower(WHEEL, 50)))
        self.assertRaises(NothingToUndo, follower.undo)
        # A tick that is taken back may be told otherwise.
        follower.turn(-1, 2)
        self.assertEqual((follower.tick, follower.log), (2, [("turn", -1, 2)]))

    def test_a_hundred_calls_taken_back(self):
        chosen = random.Random(100)
        follower, states = Follower(WHEEL, 3), []
        tick = 0
        for number in range(100):
            states.append(state_of(follower))
            tick += chosen.randrange(3)
            if number % 3 == 0:
                follower.set_pull(chosen.randrange(40), tick)
            elif number % 3 == 1:
                follower.turn(chosen.choice([-1, 1, 2]), tick)
            else:
                follower.wait(tick)
        other = follower.fork()
        for one in (follower, other):
            for state in reversed(states):
                one.undo()
                self.assertEqual(state_of(one), state)
            self.assertRaises(NothingToUndo, one.undo)

    def test_forks_go_their_own_ways(self):
        follower = Follower(WHEEL, 0)
        follower.set_pull(20, 0)
        follower.turn(1, 2)
        other = follower.fork()
        self.assertIsNot(other, follower)
        before = state_of(follower)
        other.turn(1, 4)
        other.undo()
        other.undo()
        other.turn(-3, 4)
        self.assertEqual(state_of(follower), before)
        kept = state_of(other)
        follower.undo()
        follower.undo()
        follower.wait(HUGE)
        self.assertEqual(state_of(other), kept)
        # A fork can take back the calls ahead of it, and may outlive what it came from.
        third = other.fork()
        del other, follower
        third.undo()
        third.undo()
        self.assertRaises(NothingToUndo, third.undo)

    def test_equal_and_not_equal(self):
        def told(wheel=WHEEL, place=0, *calls):
            follower = Follower(wheel, place)
            for name, *arguments in calls:
                getattr(follower, name)(*arguments)
            return follower

        calls = [("set_pull", 20, 1), ("turn", 1, 2), ("wait", 5)]
        one = told(WHEEL, 0, *calls)
        self.assertIs(one == one, True)
        self.assertIs(one == told((400, 100), 0, *calls), True)
        self.assertIs(one != told((400, 100), 0, *calls), False)
        for other in [
            told((401, 100), 0, *calls), told((400, 99), 0, *calls), told(WHEEL, 1, *calls), told(WHEEL, 0, *calls[:2]),
            told(WHEEL, 0, *calls, ("wait", 5)), told(WHEEL, 0, ("set_pull", 21, 1), *calls[1:]),
            told(WHEEL, 0, ("set_pull", 20, 0), *calls[1:]), told(WHEEL, 0, calls[0], ("turn", 2, 2), calls[2]),
            told(WHEEL, 0, calls[0], ("turn", 1, 3), calls[2]), told(WHEEL, 0, *calls[:2], ("wait", 6)),
            told(WHEEL, 0, calls[1], calls[2]), told(),
        ]:
            self.assertIs(one == other, False)
            self.assertIs(one != other, True)
            self.assertIs(other == one, False)
        for other in NO_NUMBERS + [WHEEL, "Follower", one.log, (WHEEL, 0, one.log), Follower, 3]:
            self.assertIs(one == other, False)
            self.assertIs(one != other, True)
        # What leads to one state by two logs is not equal.
        two = told(WHEEL, 0, ("wait", 4))
        three = told(WHEEL, 0, ("wait", 2), ("wait", 4))
        self.assertEqual(state_of(two)[:7], state_of(three)[:7])
        self.assertIs(two == three, False)
        two.undo()
        three.undo()
        three.undo()
        self.assertIs(two == three, True)

    def test_told_lists_are_new(self):
        follower = Follower(WHEEL, 0)
        follower.turn(3, 0)
        follower.turn(1, 4)
        for name in ("slips", "log"):
            one, other = getattr(follower, name), getattr(follower, name)
            self.assertIsNot(one, other)
            kept = list(other)
            one.append(("wait", 9))
            other.clear()
            self.assertEqual(getattr(follower, name), kept)
        self.assertEqual((len(follower), follower == follower.fork()), (2, True))
        self.assertEqual((type(follower.slips[0]), type(follower.log[0])), (tuple, tuple))

    def test_calls_by_name(self):
        follower = Follower(wheel=WHEEL, place=0)
        follower.turn(steps=1, tick=2)
        follower.set_pull(pull=3, tick=2)
        follower.wait(tick=9)
        self.assertEqual(follower.log, [("turn", 1, 2), ("pull", 3, 2), ("wait", 9)])

    def test_methods_stand_in_the_class(self):
        for name in ("turn", "set_pull", "wait", "undo", "would_be", "fork", "__len__", "__eq__", "__init__"):
            self.assertTrue(callable(vars(Follower)[name]), name)
        for name in NAMES:
            self.assertIsInstance(vars(Follower)[name], property, name)
        self.assertEqual(Follower.__module__, "poleslips.live")


class Errors(unittest.TestCase):
    def test_wrong_wheels_and_places(self):
        for value, index in WRONG_WHEELS:
            for place in (0, None, 10 ** 40):
                self.assertEqual(outcome(Follower, [value, place]), (InvalidWheel, {"index": index}))
        for value in NO_NUMBERS + [-201, 200, 400, HUGE, -HUGE]:
            self.assertEqual(outcome(Follower, [WHEEL, value]), (InvalidPlace, {}))
        for wheel in SMALL_WHEELS:
            for place in (beginnings(wheel)[0] - 1, beginnings(wheel)[-1] + 1, wheel[0]):
                self.assertEqual(outcome(Follower, [wheel, place], ["wheel", "place"]), (InvalidPlace, {}))

    def follower(self):
        follower = Follower(WHEEL, 0)
        follower.set_pull(20, 3)
        follower.turn(3, 5)
        follower.turn(1, 5)
        return follower

    def check(self, name, arguments, error):
        """A refused call leaves all unchanged."""
        follower = self.follower()
        before, other = state_of(follower), follower.fork()
        self.assertEqual(outcome(getattr(follower, name), arguments), (error, {}), (name, arguments))
        self.assertEqual(state_of(follower), before)
        self.assertIs(follower == other, True)
        follower.undo()
        other.undo()
        self.assertEqual(state_of(follower), state_of(other))

    def test_wrong_arguments(self):
        numbers, pulls = NO_NUMBERS + [0], NO_NUMBERS + [-1, -HUGE]
        ticks = NO_NUMBERS + [4, 0, -1, -HUGE]
        for value in numbers:
            self.check("turn", [value, 5], InvalidNumber)
            self.check("turn", [value, 10 ** 20], InvalidNumber)
        for value in pulls:
            self.check("set_pull", [value, 5], InvalidPull)
        for tick in ticks:
            self.check("turn", [1, tick], InvalidTick)
            self.check("set_pull", [1, tick], InvalidTick)
            self.check("wait", [tick], InvalidTick)
            self.check("turn", [0, tick], InvalidNumber)
            self.check("turn", [None, tick], InvalidNumber)
            self.check("set_pull", [-1, tick], InvalidPull)
            self.check("set_pull", ["x", tick], InvalidPull)

    def test_wrong_arguments_of_a_new_follower(self):
        follower = Follower(WHEEL, 0)
        for name, arguments, error in [
            ("undo", [], NothingToUndo), ("wait", [-1], InvalidTick), ("turn", [1, -1], InvalidTick),
            ("turn", [0, 0], InvalidNumber), ("set_pull", [-1, 0], InvalidPull), ("wait", [True], InvalidTick),
        ]:
            self.assertEqual(outcome(getattr(follower, name), arguments), (error, {}))
            self.assertEqual(state_of(follower), state_of(Follower(WHEEL, 0)))

    def test_the_present_tick_is_taken_and_one_less_is_not(self):
        for tick in (0, 1, 7, 10 ** 29):
            follower = Follower(WHEEL, 0)
            follower.wait(tick)
            self.assertEqual(outcome(follower.wait, [tick - 1]), (InvalidTick, {}))
            self.assertEqual((follower.wait(tick), follower.turn(1, tick), follower.set_pull(1, tick)), (None,) * 3)
            follower.undo()
            self.assertEqual(follower.tick, tick)


class GreatNumbers(unittest.TestCase):
    def test_long_waits(self):
        with at_once():
            follower = Follower(WHEEL, -150)
            follower.set_pull(7, 10 ** 20)
            self.assertEqual((follower.place, follower.would_be()), (-150, (10 ** 20 + 22, 0)))
            follower.wait(2 * 10 ** 20)
            self.assertEqual((follower.place, follower.tick), (0, 2 * 10 ** 20))
            follower.turn(10 ** 29, 3 * 10 ** 20)
            self.assertEqual((follower.lost, follower.aim), (25 * 10 ** 27, 0))
            self.assertEqual(follower.slips, [(3 * 10 ** 20, 25 * 10 ** 27)])
            great = Follower((4 * HUGE, HUGE), 0)
            great.set_pull(1, 0)
            great.turn(2, 0)
            great.wait(HUGE)
            self.assertEqual((great.place, great.would_be()), (HUGE, (2 * HUGE, 2 * HUGE)))

    def test_200_calls(self):
        with at_once():
            follower = Follower((10 ** 29, HUGE), 0)
            for number in range(200):
                tick = number // 2 * 10 ** 20
                if number % 3 == 0:
                    follower.set_pull(number * 10 ** 6, tick)
                else:
                    follower.turn((-1) ** (number // 50) * number, tick)
                state_of(follower)
                follower.fork()
            self.assertEqual((len(follower), len(follower.log)), (200, 200))
            self.assertGreater(len(follower.slips), 50)
            for number in range(199, -1, -1):
                follower.undo()
                self.assertEqual(len(follower), number)


if __name__ == "__main__":
    unittest.main()
