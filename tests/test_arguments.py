"""Points [2] and [3]: wrong arguments, the order of the errors, names, and lists that are nobody's."""

import copy
import inspect
import itertools
import unittest

from poleslips import console, live, texts
from poleslips import drives, keeping, losses, papers, places, plays, quickest, sightings, slack, steady, stops, wheels
from poleslips.errors import (
    Impossible, InvalidDrive, InvalidLoads, InvalidNumber, InvalidPlace, InvalidPull, InvalidSightings, InvalidStart,
    InvalidTick, InvalidWheel, TooLarge,
)
from support import (
    HUGE, LOADS_400, NO_NUMBERS, SIXTY, SIXTY_SEEN, WRONG_DRIVES, WRONG_LOADS, WRONG_SIGHTINGS, WRONG_SPANS,
    WRONG_STARTS, WRONG_WHEELS, outcome,
)


def indexed(kind, wrong):
    return [(value, (kind, {"index": index})) for value, index in wrong]


def plain(kind, *more):
    return [(value, (kind, {})) for value in NO_NUMBERS + list(more)]


WHEEL = indexed(InvalidWheel, WRONG_WHEELS)
DRIVE = indexed(InvalidDrive, WRONG_DRIVES)
FIELD = plain(InvalidNumber)
PLACE = plain(InvalidPlace)
BEGINNING = plain(InvalidPlace, -201, 200, 400, -HUGE, HUGE)
PULL = plain(InvalidPull, -1, -20, -HUGE)
TICK = plain(InvalidTick, -1, -20, -HUGE)
FROM_0 = plain(InvalidNumber, -1, -20, -HUGE)
FROM_1 = plain(InvalidNumber, 0, -1, -20, -HUGE)
COUNT = plain(InvalidNumber, -1, 61, 62, -HUGE, HUGE)
TURN = plain(InvalidNumber, 0)

LOW = plain(InvalidPull, 31, 400, -1, -20, -HUGE, HUGE)
HIGH = plain(InvalidPull, 19, 0, -1, -30, -HUGE)
START = indexed(InvalidStart, WRONG_STARTS)
INDEX = plain(InvalidNumber, 3, 4, 60, -1, -3, -HUGE, HUGE)

LOADS = indexed(InvalidLoads, WRONG_LOADS)
SIGHTINGS = indexed(InvalidSightings, WRONG_SIGHTINGS)
SPAN = indexed(InvalidStart, WRONG_SPANS)
LOW_FROM_0 = plain(InvalidPull, -1, -20, -HUGE)
LOW_FROM_1 = plain(InvalidPull, 0, -1, -20, -HUGE)
LOW_OF_HOME = plain(InvalidPull, 0, 31, 400, -1, -20, -HUGE, HUGE)
STEPS = plain(InvalidNumber, -1, 61, 62, -HUGE, HUGE)
MOST = plain(InvalidNumber, -1, 401, 402, -HUGE, HUGE)
# Stops that are above the place -7, or no integers.
STOP = plain(InvalidPlace, -6, 0, 5, HUGE)


def first_back(drive, index):
    """The index of the first item up to the wrong one whose turn is not ahead."""
    return next((at for at, item in enumerate(drive[:index]) if item[1] < 1), index)


# Wrong drives where all turns are ahead.
AHEAD = indexed(InvalidDrive, [
    (value, index if index is None else first_back(value, index)) for value, index in WRONG_DRIVES
] + [
    ([(0, -1)], 0), ([(0, 1), (4, -1)], 1), ([(0, 1), (4, -1), None], 1), ([(0, 1), None, (4, -1)], 1),
    ([(0, -1), (0, 1)], 0), ([(0, 1), (5, 2), (9, -HUGE)], 2), (SIXTY, 0),
])

LATE_DRIVE = [(2, 1), (4, -1), (9, 3)]
AHEAD_DRIVE = [(2, 1), (14, 1), (29, 1)]
SEEN = [(2, -7, 12), (4, -400, 400)]

TWICE = [(0, 2), (10, -1), (12, -1), (13, -1)]

# The arguments that most calls begin with.
WAYS = [
    ("wheel", (400, 100), WHEEL), ("low", 20, LOW), ("high", 30, HIGH), ("start", (-7, 12), START),
    ("drive", LATE_DRIVE, DRIVE),
]
KEEPING = [("wheel", (400, 100), WHEEL), ("place", 7, BEGINNING), ("drive", LATE_DRIVE, DRIVE)]
STEADY = [("wheel", (400, 100), WHEEL), ("pull", 20, PULL), ("every", 4, FROM_1)]
QUICKEST = [("wheel", (400, 100), WHEEL), ("low", 20, LOW_FROM_1), ("place", 7, BEGINNING)]
SLACK = [("wheel", (400, 100), WHEEL), ("low", 20, LOW_FROM_0), ("drive", AHEAD_DRIVE, AHEAD)]
SIGHTED = WAYS + [("sightings", SEEN, SIGHTINGS)]
HOME = [
    ("wheel", (400, 100), WHEEL), ("low", 20, LOW_OF_HOME), ("high", 30, HIGH), ("span", (-7, 12), SPAN),
    ("stop", -7, STOP),
]
VALUE = ("value", (0, []), [])

# For each function the names of its arguments, a right value for each, and the wrong ones with their errors.
CALLS = [
    (wheels.fore_of, [("wheel", (400, 100), WHEEL)]),
    (wheels.back_of, [("wheel", (400, 100), WHEEL)]),
    (wheels.aim_of, [("wheel", (400, 100), WHEEL), ("field", 500, FIELD), ("place", 123, PLACE)]),
    (wheels.rest_of, [("wheel", (400, 100), WHEEL), ("field", 500, FIELD), ("place", 123, PLACE)]),
    (wheels.lost_of, [("wheel", (400, 100), WHEEL), ("field", 500, FIELD), ("place", 123, PLACE)]),
    (wheels.pulled, [
        ("wheel", (400, 100), WHEEL), ("field", 500, FIELD), ("place", 350, PLACE), ("pull", 20, PULL),
        ("ticks", 3, FROM_0),
    ]),
    (drives.field_at, [("wheel", (400, 100), WHEEL), ("drive", LATE_DRIVE, DRIVE), ("tick", 5, TICK)]),
    (drives.total_turn, [("drive", LATE_DRIVE, DRIVE)]),
    (drives.even_drive, [("count", 5, COUNT), ("every", 7, FROM_1), ("turn", -2, TURN)]),
    (drives.joined, [("one", LATE_DRIVE, DRIVE), ("other", [(3, 1), (4, 5)], DRIVE)]),
    (drives.delayed, [("drive", LATE_DRIVE, DRIVE), ("by", 3, FROM_0)]),
    (drives.slowed, [("drive", LATE_DRIVE, DRIVE), ("by", 3, FROM_1)]),
    (drives.turned_back, [("drive", LATE_DRIVE, DRIVE)]),
    (plays.play, [
        ("wheel", (400, 100), WHEEL), ("pull", 20, PULL), ("place", 7, BEGINNING), ("drive", LATE_DRIVE, DRIVE),
    ]),
    (plays.slips, [
        ("wheel", (400, 100), WHEEL), ("pull", 20, PULL), ("place", 7, BEGINNING), ("drive", LATE_DRIVE, DRIVE),
    ]),
    (plays.is_kept, [
        ("wheel", (400, 100), WHEEL), ("pull", 20, PULL), ("place", 7, BEGINNING), ("drive", LATE_DRIVE, DRIVE),
    ]),
    (plays.state_at, [
        ("wheel", (400, 100), WHEEL), ("pull", 20, PULL), ("place", 7, BEGINNING), ("drive", LATE_DRIVE, DRIVE),
        ("tick", 5, TICK),
    ]),
    (plays.stands_from, [
        ("wheel", (400, 100), WHEEL), ("pull", 20, PULL), ("place", 7, BEGINNING), ("drive", LATE_DRIVE, DRIVE),
    ]),
    (steady.first_slip, STEADY + [("place", 7, BEGINNING)]),
    (steady.least_every, STEADY[:2]),
    (steady.lost_behind, STEADY + [("place", 7, BEGINNING), ("many", 30, FROM_0)]),
    (steady.pace, STEADY),
    (keeping.kept_pulls, KEEPING + [("most", 50, FROM_0)]),
    (keeping.next_change, KEEPING + [("pull", 3, PULL)]),
    (places.places, WAYS + [("tick", 6, TICK)]),
    (places.lost_rounds, WAYS + [("tick", 9, TICK)]),
    (places.final_places, WAYS),
    (losses.is_sure, WAYS),
    (losses.can_keep, WAYS),
    (losses.first_risk, WAYS),
    (losses.first_loss, WAYS),
    (losses.kept_span, WAYS + [("index", 1, INDEX)]),
    (papers.play_loads, [
        ("wheel", (400, 100), WHEEL), ("loads", [(20, 4), (30, 1)], LOADS), ("place", 7, BEGINNING),
        ("drive", LATE_DRIVE, DRIVE),
    ]),
    (papers.slip_paper, WAYS),
    (papers.keep_paper, WAYS),
    (papers.place_paper, WAYS + [("tick", 6, TICK), ("place", 40, PLACE)]),
    (papers.shows_slip, WAYS + [VALUE]),
    (papers.shows_keep, WAYS + [VALUE]),
    (papers.shows_place, WAYS + [("tick", 6, TICK), ("place", 40, PLACE), VALUE]),
    (quickest.steps_by, QUICKEST + [("tick", 9, TICK)]),
    (quickest.quickest_tick, QUICKEST + [("index", 9, FROM_0)]),
    (quickest.quickest_drive, QUICKEST + [("steps", 9, STEPS)]),
    (quickest.settled_tick, QUICKEST + [("steps", 9, STEPS)]),
    (slack.slack, SLACK),
    (slack.late_drive, SLACK + [("by", 9, FROM_0)]),
    (slack.shows_late, SLACK + [("by", 9, FROM_0), VALUE]),
    (sightings.fits, SIGHTED),
    (sightings.first_misfit, SIGHTED),
    (sightings.places_seen, SIGHTED + [("tick", 3, TICK)]),
    (sightings.sight_paper, SIGHTED),
    (sightings.shows_sights, SIGHTED + [VALUE]),
    (stops.play_stop, [
        ("wheel", (400, 100), WHEEL), ("pull", 20, PULL), ("place", -7, PLACE), ("stop", -7, STOP),
        ("drive", LATE_DRIVE, DRIVE),
    ]),
    (stops.stop_places, [
        ("wheel", (400, 100), WHEEL), ("low", 20, LOW), ("high", 30, HIGH), ("span", (-7, 12), SPAN),
        ("stop", -7, STOP), ("drive", LATE_DRIVE, DRIVE), ("tick", 6, TICK),
    ]),
    (stops.home_steps, HOME + [("every", 4, FROM_1), ("most", 60, MOST)]),
    (stops.home_place, HOME + [("every", 4, FROM_1), ("most", 60, MOST)]),
]


class Wrong(unittest.TestCase):
    def check(self, function, names, arguments, error):
        before = repr(arguments)
        for by_name in (None, names):
            told = outcome(function, arguments, by_name)
            if told != error:
                self.fail(f"{function.__name__}{tuple(arguments)!r}: {told} in place of {error}")
        self.assertEqual(repr(arguments), before)

    def test_each_wrong_value_alone(self):
        for function, parameters in CALLS:
            names = [name for name, _, _ in parameters]
            for at, (name, _, wrong) in enumerate(parameters):
                with self.subTest(function=function.__name__, argument=name):
                    for value, error in wrong:
                        arguments = [right for _, right, _ in parameters]
                        arguments[at] = value
                        self.check(function, names, arguments, error)

    def test_of_two_wrong_values_the_first_one_counts(self):
        for function, parameters in CALLS:
            names = [name for name, _, _ in parameters]
            for one, other in itertools.combinations(range(len(parameters)), 2):
                with self.subTest(function=function.__name__, arguments=(names[one], names[other])):
                    for value, error in parameters[one][2]:
                        for later, _ in parameters[other][2][::7] + parameters[other][2][-1:]:
                            arguments = [right for _, right, _ in parameters]
                            arguments[one], arguments[other] = value, later
                            self.check(function, names, arguments, error)

    def test_all_values_wrong(self):
        for function, parameters in CALLS:
            names = [name for name, _, _ in parameters]
            with self.subTest(function=function.__name__):
                for at in range(-5, 5):
                    arguments = [wrong[at][0] if wrong else right for _, right, wrong in parameters]
                    self.check(function, names, arguments, parameters[0][2][at][1])

    def test_wrong_drives_of_both_in_joined(self):
        for value, error in DRIVE:
            self.check(drives.joined, ["one", "other"], [SIXTY, value], error)
            self.check(drives.joined, ["one", "other"], [value, SIXTY], error)

    def test_a_drive_is_checked_ahead_of_the_number_of_items(self):
        later = [(tick + 1, turn) for tick, turn in SIXTY]
        self.check(drives.joined, ["one", "other"], [SIXTY, later], (TooLarge, {"limit": 60}))
        broken = later[:59] + [(178, 0)]
        self.check(drives.joined, ["one", "other"], [SIXTY, broken], (InvalidDrive, {"index": 59}))
        self.check(drives.joined, ["one", "other"], [broken, SIXTY], (InvalidDrive, {"index": 59}))

    def test_beginning_places_of_wheels(self):
        for wheel in [(3, 1), (4, 1), (5, 2), (6, 2), (10 ** 29, 1), (10 ** 29 + 1, 7)]:
            least, greatest = -(wheel[0] // 2), (wheel[0] - 1) // 2
            for place in (least, least + 1, 0, greatest - 1, greatest):
                for function in (plays.play, plays.slips):
                    self.assertEqual(function(wheel, 0, place, []), [])
                self.assertIs(plays.is_kept(wheel, 0, place, []), True)
                self.assertEqual(plays.state_at(wheel, 0, place, [], 0), (0, place, 0))
                self.assertEqual(plays.stands_from(wheel, 0, place, []), 0 if place == 0 else None)
            for place in (least - 1, greatest + 1, least - wheel[0], greatest + wheel[0], wheel[0]):
                for function in (plays.play, plays.slips, plays.is_kept, plays.stands_from):
                    self.assertEqual(outcome(function, [wheel, 0, place, []]), (InvalidPlace, {}))
                self.assertEqual(outcome(plays.state_at, [wheel, 0, place, [], 0]), (InvalidPlace, {}))


    def test_beginning_places_of_equal_steps_and_of_pulls_that_keep(self):
        for wheel in [(3, 1), (4, 1), (5, 2), (6, 2), (10 ** 29, 1), (10 ** 29 + 1, 7)]:
            least, greatest = -(wheel[0] // 2), (wheel[0] - 1) // 2
            for place in (least, 0, greatest):
                self.assertEqual(keeping.kept_pulls(wheel, place, [], 5), [(0, 5)])
                self.assertIsNone(keeping.next_change(wheel, place, [], 5))
                self.assertEqual(steady.first_slip(wheel, wheel[1], 1, place), 0 if place == least else None)
                if wheel[0] < 10:
                    self.assertEqual(steady.lost_behind(wheel, 0, 1, place, 0), 0)
            for place in (least - 1, greatest + 1, least - wheel[0], greatest + wheel[0], wheel[0]):
                for function, arguments in [
                    (keeping.kept_pulls, [wheel, place, [], 5]), (keeping.next_change, [wheel, place, [], 5]),
                    (steady.first_slip, [wheel, 1, 1, place]), (steady.lost_behind, [wheel, 1, 1, place, 1]),
                ]:
                    self.assertEqual(outcome(function, arguments), (InvalidPlace, {}))

    def each_of_ways(self):
        for function, parameters in CALLS:
            if parameters[:5] == WAYS:
                yield function, [right for _, right, _ in parameters[5:]]

    def test_starts_of_wheels(self):
        for function, more in self.each_of_ways():
            for wheel in [(3, 1), (4, 1), (5, 2), (6, 2), (10 ** 29, 1), (10 ** 29 + 1, 7)]:
                least, greatest = -(wheel[0] // 2), (wheel[0] - 1) // 2
                some = [(least, least), (least, greatest), (0, 0), (greatest, greatest), (greatest - 1, greatest)]
                for start in some:
                    kind = outcome(function, [wheel, 1, 2, start, LATE_DRIVE] + more)[0]
                    self.assertEqual(kind, "returned", (function.__name__, wheel, start))
                for start, index in [
                    ((least - 1, 0), 0), ((greatest + 1, greatest + 1), 0), ((wheel[0], wheel[0]), 0),
                    ((greatest, greatest + 1), 1), ((least, least - 1), 1), ((greatest, greatest - 1), 1),
                    ((0, wheel[0]), 1), ((least - 1, greatest + 1), 0),
                ]:
                    told = outcome(function, [wheel, 1, 2, start, LATE_DRIVE] + more)
                    self.assertEqual(told, (InvalidStart, {"index": index}), (function.__name__, wheel, start))

    def test_high_below_low(self):
        for function, more in self.each_of_ways():
            for low, high, right in [(0, 0, True), (5, 5, True), (5, 4, False), (1, 0, False), (0, HUGE, True),
                                     (HUGE, HUGE, True), (HUGE, HUGE - 1, False)]:
                told = outcome(function, [(400, 100), low, high, (0, 0), LATE_DRIVE] + more)
                self.assertEqual(told[0], "returned" if right else InvalidPull, (function.__name__, low, high))

    def test_beginning_places_of_loads_and_of_the_quickest_drive(self):
        calls = [(papers.play_loads, [[(1, 2)]], [[]]), (quickest.steps_by, [1], [5]),
                 (quickest.quickest_tick, [1], [5]), (quickest.quickest_drive, [1], [5]),
                 (quickest.settled_tick, [1], [5])]
        for wheel in [(3, 1), (4, 1), (5, 2), (6, 2), (10 ** 29, 1), (10 ** 29 + 1, 7)]:
            least, greatest = -(wheel[0] // 2), (wheel[0] - 1) // 2
            for function, before, behind in calls:
                for place in (least, 0, greatest):
                    told = outcome(function, [wheel] + before + [place] + behind)
                    self.assertEqual(told[0], "returned", (function.__name__, wheel, place))
                for place in (least - 1, greatest + 1, least - wheel[0], wheel[0]):
                    told = outcome(function, [wheel] + before + [place] + behind)
                    self.assertEqual(told, (InvalidPlace, {}), (function.__name__, wheel, place))

    def test_stops_and_places(self):
        for place, stop, right in [(0, 0, True), (0, 1, False), (5, -HUGE, True), (-HUGE, -HUGE, True), (-5, -4, False),
                                   (HUGE, HUGE + 1, False), (4000, 3999, True)]:
            for function, arguments in [
                (stops.play_stop, [(400, 100), 5, place, stop, LATE_DRIVE]),
                (stops.stop_places, [(400, 100), 5, 6, (place, place + 9), stop, LATE_DRIVE, 4]),
                (stops.home_steps, [(400, 100), 5, 6, (place, place + 9), stop, 4, 9]),
                (stops.home_place, [(400, 100), 5, 6, (place, place + 9), stop, 4, 9]),
            ]:
                told = outcome(function, arguments)[0]
                self.assertEqual(told, "returned" if right else InvalidPlace, (function.__name__, place, stop))

    def test_limits_that_are_still_right(self):
        for function, arguments in [
            (quickest.quickest_drive, [(400, 100), 20, 0, 0]), (quickest.quickest_drive, [(400, 100), 20, 0, 60]),
            (quickest.settled_tick, [(400, 100), 20, 0, 0]), (quickest.settled_tick, [(400, 100), 20, 0, 60]),
            (quickest.quickest_tick, [(400, 100), 1, 0, 10 ** 40]), (quickest.steps_by, [(400, 100), 1, 0, 0]),
            (stops.home_steps, [(400, 100), 1, 1, (0, 0), 0, 1, 0]),
            (stops.home_place, [(400, 100), 1, 1, (0, 0), 0, 1, 400]),
            (slack.late_drive, [(400, 100), 0, AHEAD_DRIVE, 0]), (slack.slack, [(400, 100), 0, []]),
            (papers.play_loads, [(400, 100), LOADS_400, 0, SIXTY]), (papers.play_loads, [(400, 100), [], 0, []]),
            (sightings.fits, [(400, 100), 0, 0, (0, 0), [], SIXTY_SEEN]),
            (sightings.fits, [(400, 100), 0, 0, (0, 0), [], []]),
        ]:
            self.assertEqual(outcome(function, arguments)[0], "returned", (function.__name__, arguments))

    def test_a_drive_that_slips_is_told_behind_all_others(self):
        for wheel, low, drive, error in [
            ((400, 200), 20, [(0, 3)], (InvalidWheel, {"index": 1})), ((400, 100), -1, [(0, 3)], (InvalidPull, {})),
            ((400, 100), 20, [(0, 3), (4, -1)], (InvalidDrive, {"index": 1})),
            ((400, 100), 20, [(0, 3)], (Impossible, {})),
            ((400, 100), 0, [(0, 2), (HUGE, 1)], (Impossible, {})),
        ]:
            self.check(slack.slack, ["wheel", "low", "drive"], [wheel, low, drive], error)

    def test_the_index_of_an_item(self):
        for drive in ([], [(0, 1)], LATE_DRIVE, SIXTY):
            for index in (-1, 0, 1, 2, 3, 59, 60):
                told = outcome(losses.kept_span, [(400, 100), 20, 30, (0, 0), drive, index])
                self.assertEqual(told[0], "returned" if 0 <= index < len(drive) else InvalidNumber, (drive, index))


class Right(unittest.TestCase):
    def test_by_position_by_name_and_again(self):
        for function, parameters in CALLS:
            with self.subTest(function=function.__name__):
                arguments = [right for _, right, _ in parameters]
                by_name = {name: right for name, right, _ in parameters}
                kept = copy.deepcopy(arguments)
                first = function(*arguments)
                self.assertEqual(arguments, kept)
                self.assertEqual(function(**by_name), first)
                self.assertEqual(function(**dict(reversed(list(by_name.items())))), first)
                self.assertEqual(function(*copy.deepcopy(arguments)), first)
                self.assertEqual(arguments, kept)

    def test_names_and_files(self):
        for function, parameters in CALLS + [
            (wheels.is_wheel, [("value", None, None)]), (drives.is_drive, [("value", None, None)]),
        ]:
            with self.subTest(function=function.__name__):
                self.assertTrue(inspect.isfunction(function))
                self.assertEqual(list(inspect.signature(function).parameters), [name for name, _, _ in parameters])
        for file, names in [
            (wheels, ["is_wheel", "fore_of", "back_of", "aim_of", "rest_of", "lost_of", "pulled"]),
            (drives, [
                "is_drive", "field_at", "total_turn", "even_drive", "joined", "delayed", "slowed", "turned_back",
            ]),
            (plays, ["play", "slips", "is_kept", "state_at", "stands_from"]),
            (steady, ["first_slip", "least_every", "lost_behind", "pace"]),
            (keeping, ["kept_pulls", "next_change"]),
            (places, ["places", "lost_rounds", "final_places"]),
            (losses, ["is_sure", "can_keep", "first_risk", "first_loss", "kept_span"]),
            (papers, [
                "play_loads", "slip_paper", "keep_paper", "place_paper", "shows_slip", "shows_keep", "shows_place",
            ]),
            (quickest, ["steps_by", "quickest_tick", "quickest_drive", "settled_tick"]),
            (slack, ["slack", "late_drive", "shows_late"]),
            (sightings, ["fits", "first_misfit", "places_seen", "sight_paper", "shows_sights"]),
            (stops, ["play_stop", "stop_places", "home_steps", "home_place"]),
            (live, ["Follower"]),
            (texts, [
                "format_wheel", "format_drive", "format_loads", "format_stretches", "parse_wheel", "parse_drive",
                "parse_loads",
            ]),
            (console, ["Console"]),
        ]:
            for name in names:
                with self.subTest(file=file.__name__, name=name):
                    self.assertEqual(getattr(file, name).__module__, file.__name__)
                    self.assertEqual(getattr(file, name).__name__, name)


class Lists(unittest.TestCase):
    """A returned list is new: neither it nor an argument is kept."""

    MAKERS = [
        (drives.even_drive, [3, 5, 1]), (drives.even_drive, [0, 1, 1]), (drives.even_drive, [60, 1, 1]),
        (drives.joined, [LATE_DRIVE, [(3, 1)]]), (drives.joined, [LATE_DRIVE, []]), (drives.joined, [[], LATE_DRIVE]),
        (drives.joined, [[], []]), (drives.joined, [LATE_DRIVE, LATE_DRIVE]),
        (drives.joined, [[(1, 1)], [(1, -1)]]),
        (drives.delayed, [LATE_DRIVE, 3]), (drives.delayed, [LATE_DRIVE, 0]), (drives.delayed, [[], 0]),
        (drives.slowed, [LATE_DRIVE, 3]), (drives.slowed, [LATE_DRIVE, 1]), (drives.slowed, [[], 1]),
        (drives.turned_back, [LATE_DRIVE]), (drives.turned_back, [[]]),
        (plays.play, [(400, 100), 20, 0, LATE_DRIVE]), (plays.play, [(400, 100), 20, 0, []]),
        (plays.slips, [(400, 100), 20, 0, [(0, 3)]]), (plays.slips, [(400, 100), 20, 0, LATE_DRIVE]),
        (plays.slips, [(400, 100), 20, 0, []]),
        (keeping.kept_pulls, [(400, 100), 0, LATE_DRIVE, 100]), (keeping.kept_pulls, [(400, 100), 0, [], 100]),
        (keeping.kept_pulls, [(400, 100), 0, [(0, 3)], 100]), (keeping.kept_pulls, [(400, 100), 0, TWICE, 100]),
    ] + [
        (function, [(400, 100), 20, 30, start, drive] + more)
        for start in ((0, 0), (-7, 12)) for drive in (LATE_DRIVE, [(0, 2), (4, 1)], [])
        for function, more in (
            (places.places, [0]), (places.places, [5]), (places.places, [HUGE]), (places.lost_rounds, [0]),
            (places.lost_rounds, [5]), (places.final_places, []), (sightings.places_seen, [[], 3]),
            (sightings.places_seen, [SEEN, 2]), (sightings.places_seen, [SEEN, 9]),
            (sightings.places_seen, [SIXTY_SEEN, 0]), (sightings.places_seen, [[(0, 90, 99)], 0]),
        )
    ] + [
        (papers.play_loads, [(400, 100), [(20, 4)], 0, LATE_DRIVE]),
        (papers.play_loads, [(400, 100), [], 0, LATE_DRIVE]), (papers.play_loads, [(400, 100), [(20, 4)], 0, []]),
        (quickest.quickest_drive, [(400, 100), 20, 0, 9]), (quickest.quickest_drive, [(400, 100), 20, 0, 0]),
        (slack.late_drive, [(400, 100), 20, [(0, 3)], 0]),
        (slack.late_drive, [(400, 100), 20, [(0, 1), (10, 1), (20, 1)], 8]),
        (stops.play_stop, [(400, 100), 20, 0, 0, LATE_DRIVE]), (stops.play_stop, [(400, 100), 20, 0, 0, []]),
        (stops.stop_places, [(400, 100), 20, 30, (0, 900), 0, LATE_DRIVE, 0]),
        (stops.stop_places, [(400, 100), 20, 30, (0, 900), 0, LATE_DRIVE, 5]),
        (stops.stop_places, [(400, 100), 20, 30, (0, 900), 0, [], 5]),
        (texts.parse_drive, ["0+2 4-1"]), (texts.parse_drive, [""]), (texts.parse_loads, ["20*4 25"]),
        (texts.parse_loads, [""]),
    ]

    def test_kinds(self):
        for function, arguments in self.MAKERS:
            with self.subTest(function=function.__name__, arguments=arguments):
                answer = function(*copy.deepcopy(arguments))
                self.assertIs(type(answer), list)
                for item in answer:
                    if function in (places.lost_rounds, places.final_places):
                        item = (item,)
                    self.assertIs(type(item), tuple)
                    self.assertEqual([type(number) for number in item], [int] * len(item))

    def test_changing_an_answer_changes_no_later_one(self):
        for function, arguments in self.MAKERS:
            with self.subTest(function=function.__name__, arguments=arguments):
                arguments = copy.deepcopy(arguments)
                kept = copy.deepcopy(arguments)
                first = function(*arguments)
                told = list(first)
                second = function(*arguments)
                self.assertIsNot(first, second)
                first.append(("changed", 1))
                first.reverse()
                self.assertEqual((second, arguments), (told, kept))
                second.clear()
                self.assertEqual(arguments, kept)
                self.assertEqual(function(*arguments), told)

    def test_changing_an_argument_changes_no_answer(self):
        for function, arguments in self.MAKERS:
            with self.subTest(function=function.__name__, arguments=arguments):
                arguments = copy.deepcopy(arguments)
                answer = function(*arguments)
                told = list(answer)
                for argument in arguments:
                    if isinstance(argument, list):
                        argument.append(("changed", 1))
                        argument.reverse()
                self.assertEqual(answer, told)

    def test_an_argument_may_change_between_two_calls(self):
        drive = [(0, 1)]
        self.assertEqual((drives.total_turn(drive), drives.field_at((400, 100), drive, 9)), (1, 100))
        self.assertEqual(plays.play((400, 100), 20, 0, drive), [(0, 0, 0)])
        self.assertEqual(plays.stands_from((400, 100), 20, 0, drive), 5)
        drive.append((4, 3))
        self.assertEqual((drives.total_turn(drive), drives.field_at((400, 100), drive, 9)), (4, 400))
        self.assertEqual(plays.play((400, 100), 20, 0, drive), [(0, 0, 0), (4, 80, 1)])
        self.assertEqual(plays.stands_from((400, 100), 20, 0, drive), 8)
        drive.append((4, 3))
        self.assertEqual(outcome(drives.total_turn, [drive]), (InvalidDrive, {"index": 2}))
        self.assertIs(drives.is_drive(drive), False)

    def test_an_error_changes_nothing(self):
        drive = [(0, 1), (4, 2)]
        before = drives.delayed(drive, 3)
        self.assertEqual(outcome(drives.delayed, [drive, -1]), (InvalidNumber, {}))
        self.assertEqual(outcome(plays.state_at, [(400, 100), 20, 0, drive, -1]), (InvalidTick, {}))
        self.assertEqual(drive, [(0, 1), (4, 2)])
        self.assertEqual(drives.delayed(drive, 3), before)


if __name__ == "__main__":
    unittest.main()
