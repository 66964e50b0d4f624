"""The examples of the document, as they stand there."""

import doctest
import re
import unittest

from poleslips import errors

EXAMPLES = {
    11: """
>>> from poleslips.wheels import back_of, fore_of, is_wheel
>>> [is_wheel(value) for value in [(400, 100), (3, 1), (3, 2), (400, 200), [400, 100], (400, True)]]
[True, True, False, False, False, False]
>>> [(fore_of(wheel), back_of(wheel)) for wheel in [(400, 100), (5, 2)]]
[(200, 199), (2, 2)]

>>> from poleslips.wheels import aim_of, lost_of, rest_of
>>> some = [(0, -200), (0, 200), (0, 201), (1000, 350), (-600, 0)]
>>> [aim_of((400, 100), field, place) for field, place in some]
[0, 400, 400, 200, 200]
>>> [(rest_of((400, 100), field, place), lost_of((400, 100), field, place)) for field, place in some]
[(200, 0), (200, -1), (199, -1), (-150, 2), (200, -2)]

>>> from poleslips.wheels import pulled
>>> [pulled((400, 100), 0, -150, 20, ticks) for ticks in [0, 3, 7, 8, 10 ** 29]]
[-150, -90, -10, 0, 0]
>>> [pulled((400, 100), 0, 200, 30, 3), pulled((400, 100), 0, 200, 0, 10 ** 29)]
[290, 200]
""",
    12: """
>>> from poleslips.drives import field_at, is_drive, total_turn
>>> [is_drive(value) for value in [[], [(0, 2), (4, -1)], [(4, 2), (4, 1)], [(0, 0)], ((0, 2),)]]
[True, True, False, False, False]
>>> [field_at((400, 100), [(0, 2), (4, -1), (9, 3)], tick) for tick in [0, 3, 4, 8, 9, 10 ** 29]]
[200, 200, 100, 100, 400, 400]
>>> [total_turn([(0, 2), (4, -1), (9, 3)]), total_turn([])]
[4, 0]
""",
    13: """
>>> from poleslips.drives import even_drive, joined
>>> [even_drive(3, 5, -2), even_drive(0, 1, 1), joined([(0, 1), (4, 2)], [(2, 1), (4, -2), (7, 1)])]
[[(0, -2), (5, -2), (10, -2)], [], [(0, 1), (2, 1), (7, 1)]]

>>> from poleslips.drives import delayed, slowed, turned_back
>>> [delayed([(0, 1), (4, 2)], 3), slowed([(0, 1), (4, 2)], 3), turned_back([(0, 1), (4, -2)])]
[[(3, 1), (7, 2)], [(0, 1), (12, 2)], [(0, -1), (4, 2)]]
""",
    14: """
>>> from poleslips.plays import is_kept, play, slips
>>> wheel, drive = (400, 100), [(0, 1), (3, 1), (5, 1), (9, 1)]
>>> [play(wheel, pull, 0, drive) for pull in [20, 23]]
[[(0, 0, 0), (3, 60, 0), (5, 100, 0), (9, 180, 1)], [(0, 0, 0), (3, 69, 0), (5, 115, 0), (9, 207, 0)]]
>>> [(slips(wheel, pull, 0, drive), is_kept(wheel, pull, 0, drive)) for pull in [20, 23]]
[([(3, 1)], False), ([], True)]
>>> [slips(wheel, 50, 0, [(0, turn)]) for turn in [2, -2, 6, -6, 10 ** 20]]
[[], [(0, -1)], [(0, 1)], [(0, -2)], [(0, 25000000000000000000)]]
""",
    15: """
>>> from poleslips.plays import stands_from, state_at
>>> wheel, drive = (400, 100), [(0, 1), (3, 1), (5, 1), (9, 1)]
>>> [state_at(wheel, 20, 0, drive, tick) for tick in [0, 4, 9, 12, 18, 10 ** 29]]
[(100, 0, 0), (200, 80, 0), (400, 180, 1), (400, 120, 1), (400, 0, 1), (400, 0, 1)]
>>> [stands_from(wheel, pull, 0, drive) for pull in [20, 23, 0]]
[18, 18, 9]
>>> [stands_from(wheel, 7, -150, []), stands_from(wheel, 0, -150, []), stands_from(wheel, 0, 0, [])]
[22, None, 0]
""",
    16: """
>>> from poleslips.steady import first_slip
>>> wheel = (400, 100)
>>> [first_slip(wheel, 20, 4, place) for place in (0, 199, -200)]
[6, 7, 0]
>>> [first_slip(wheel, 25, 4, 0), first_slip((10 ** 29, 2), 1, 1, 0)]
[None, 49999999999999999999999999999]

>>> from poleslips.steady import least_every
>>> [least_every((400, 100), pull) for pull in (20, 30, 100, 0)]
[5, 4, 1, None]
""",
    17: """
>>> from poleslips.steady import lost_behind
>>> [lost_behind((400, 100), 20, 4, 0, many) for many in (0, 6, 7, 14, 15, 10 ** 20)]
[0, 0, 1, 1, 2, 12500000000000000000]

>>> from poleslips.steady import pace
>>> [pace((400, 100), 20, 4), pace((400, 100), 25, 4), pace((400, 100), 0, 1)]
[(1, 8), (0, 1), (1, 4)]
""",
    18: """
>>> from poleslips.keeping import kept_pulls
>>> wheel = (400, 100)
>>> [kept_pulls(wheel, 0, [(0, 1), (3, 1), (5, 1), (9, 1)], 100), kept_pulls(wheel, 0, [(0, 2), (10, -2)], 50)]
[[(23, 100)], [(0, 19)]]
>>> kept_pulls(wheel, 0, [(0, 2), (10, -1), (12, -1), (13, -1)], 100)
[(0, 14), (34, 100)]

>>> from poleslips.keeping import next_change
>>> drive = [(0, 2), (10, -1), (12, -1), (13, -1)]
>>> [next_change((400, 100), 0, drive, pull) for pull in (0, 14, 15, 34)]
[15, 15, 34, None]
""",
    19: """
>>> from poleslips.places import lost_rounds, places
>>> wheel, drive = (400, 100), [(0, 2), (4, 1)]
>>> [places(wheel, 20, 30, (0, 0), drive, tick) for tick in (0, 4, 5, 40)]
[[(0, 0)], [(80, 120)], [(50, 79), (120, 150)], [(-100, -100), (300, 300)]]
>>> [lost_rounds(wheel, 20, 30, (0, 0), drive, tick) for tick in (3, 4)]
[[0], [0, 1]]
""",
    20: """
>>> from poleslips.places import final_places
>>> wheel, drive = (400, 100), [(0, 2), (4, 1)]
>>> [final_places(wheel, 20, 30, (0, 0), drive), final_places(wheel, 25, 30, (0, 0), drive), final_places(wheel, 5, 5, (-9, 9), [])]
[[-100, 300], [300], [0]]
""",
    21: """
>>> from poleslips.losses import can_keep, first_loss, first_risk, is_sure
>>> wheel, drive, some = (400, 100), [(0, 2), (4, 1)], [(25, 30), (20, 30), (10, 20)]
>>> [(is_sure(wheel, low, high, (0, 0), drive), can_keep(wheel, low, high, (0, 0), drive)) for low, high in some]
[(True, True), (False, True), (False, False)]
>>> [(first_risk(wheel, low, high, (0, 0), drive), first_loss(wheel, low, high, (0, 0), drive)) for low, high in some]
[(None, None), (1, None), (1, 1)]

>>> from poleslips.losses import kept_span
>>> wheel, drive = (400, 100), [(0, 2), (4, 1)]
>>> [kept_span(wheel, 20, 30, (0, 0), drive, 1), kept_span(wheel, 10, 20, (0, 0), drive, 1), kept_span(wheel, 10, 20, (0, 0), drive, 0)]
[(100, 120), None, (0, 0)]
""",
    22: """
>>> from poleslips.papers import play_loads
>>> play_loads((400, 100), [(20, 4), (30, 1)], 0, [(0, 2), (4, 1), (6, 1)])
[(0, 0, 0), (4, 80, 1), (6, 50, 1)]
""",
    23: """
>>> from poleslips.papers import shows_keep, shows_place, shows_slip
>>> wheel, drive = (400, 100), [(0, 2), (4, 1)]
>>> some = [(0, [(20, 4)]), (0, [(25, 4)]), (0, [(20, 3)]), (0, [(19, 4)]), (1, [(20, 4)])]
>>> [(shows_slip(wheel, 20, 30, (0, 0), drive, value), shows_keep(wheel, 20, 30, (0, 0), drive, value)) for value in some]
[(True, False), (False, True), (False, False), (False, False), (False, False)]
>>> shows_place(wheel, 20, 30, (0, 0), drive, 5, 79, (0, [(25, 3), (24, 1), (20, 1)]))
True
""",
    24: """
>>> from poleslips.quickest import steps_by
>>> wheel = (400, 100)
>>> [[steps_by(wheel, 20, 0, tick) for tick in (0, 4, 5, 10)], [steps_by(wheel, 170, 0, tick) for tick in range(5)]]
[[2, 2, 3, 4], [2, 3, 5, 6, 8]]
>>> [steps_by(wheel, 20, 0, 10 ** 28), steps_by(wheel, 170, 0, 10 ** 28)]
[2000000000000000000000000002, 15000000000000000000000000002]

>>> from poleslips.quickest import quickest_tick
>>> [quickest_tick((400, 100), 20, 0, index) for index in range(5)], quickest_tick((400, 100), 20, -200, 0)
([0, 0, 5, 10, 15], 5)
""",
    25: """
>>> from poleslips.quickest import quickest_drive
>>> [quickest_drive((400, 100), 20, 0, 4), quickest_drive((400, 100), 170, 0, 7), quickest_drive((400, 100), 20, 0, 0)]
[[(0, 2), (5, 1), (10, 1)], [(0, 2), (1, 1), (2, 2), (3, 1), (4, 1)], []]

>>> from poleslips.quickest import settled_tick
>>> [settled_tick((400, 100), 20, 0, 4), settled_tick((400, 100), 20, -150, 0), settled_tick((400, 100), 20, 150, 0)]
[20, 8, 8]
""",
    26: """
>>> from poleslips.slack import slack
>>> wheel = (400, 100)
>>> [slack(wheel, 20, [(0, 1), (10, 1), (20, 1)]), slack(wheel, 20, [(0, 2), (5, 1), (10, 1)]), slack(wheel, 0, [(0, 1), (9, 1)])]
[7, 0, None]
>>> slack(wheel, 20, [(0, 3)])
raises Impossible

>>> from poleslips.slack import late_drive
>>> late_drive((400, 100), 20, [(0, 1), (10, 1), (20, 1)], 7) is None
True

>>> from poleslips.slack import shows_late
>>> wheel, drive = (400, 100), [(0, 1), (10, 1), (20, 1)]
>>> some = [(8, [(8, 1), (12, 1), (12, 1)]), (7, [(8, 1), (12, 1), (12, 1)]), (8, [(7, 1), (13, 1), (13, 1)])]
>>> [shows_late(wheel, 20, drive, by, value) for by, value in some]
[True, False, False]
""",
    27: """
>>> from poleslips.sightings import first_misfit, fits, places_seen
>>> wheel, drive = (400, 100), [(0, 1)]
>>> [fits(wheel, 10, 20, (0, 0), drive, [(4, least, 99)]) for least in (80, 81)]
[True, False]
>>> [first_misfit(wheel, 10, 20, (0, 0), drive, seen) for seen in ([(2, 20, 25), (4, 70, 80)], [(2, 20, 30), (4, 70, 80)])]
[1, None]
>>> [places_seen(wheel, 10, 20, (0, 0), drive, [(4, 75, 80)], tick) for tick in (2, 5)]
[[(35, 40)], [(85, 100)]]
""",
    28: """
>>> from poleslips.sightings import shows_sights
>>> wheel, drive, seen = (400, 100), [(0, 1)], [(2, 30, 35), (4, 75, 80)]
>>> some = [(0, [(20, 1), (15, 1), (20, 2)]), (0, [(20, 4)]), (0, [(15, 2), (20, 2)]), (0, [(20, 2), (20, 1)])]
>>> [shows_sights(wheel, 10, 20, (0, 0), drive, seen, value) for value in some]
[True, False, False, False]
""",
    29: """
>>> from poleslips.stops import play_stop
>>> drive = [(0, -1), (2, -1), (4, -1), (6, -1)]
>>> [play_stop((400, 100), 50, 0, stop, drive) for stop in (0, -1000)]
[[(0, 0), (2, 0), (4, 100), (6, 100)], [(0, 0), (2, -100), (4, -200), (6, -300)]]

>>> from poleslips.stops import stop_places
>>> wheel = (400, 100)
>>> [stop_places(wheel, 20, 50, (0, 0), 0, [(0, -1), (2, -1)], tick) for tick in (2, 3, 4, 40)]
[[(0, 0)], [(20, 50)], [(40, 100)], [(200, 200)]]
>>> [stop_places(wheel, 20, 50, (90, 110), 0, [(0, -1)], tick) for tick in (1, 40)]
[[(40, 79), (120, 160)], [(0, 0), (300, 300)]]
""",
    30: """
>>> from poleslips.stops import home_place, home_steps
>>> wheel, spans = (400, 100), [(0, 100), (0, 300), (0, 1000)]
>>> [home_steps(wheel, 50, 50, span, 0, 10, 60) for span in spans]
[0, 2, 10]
>>> [home_place(wheel, 50, 50, span, 0, 10, 60) for span in spans]
[0, 200, 200]
>>> home_steps(wheel, 50, 50, (0, 1000), 0, 10, 9) is None
True
""",
    33: """
>>> from poleslips.live import Follower
>>> follower = Follower((400, 100), 0)
>>> [follower.tick, follower.field, follower.pull, follower.place, follower.aim, follower.lost, len(follower)]
[0, 0, 0, 0, 0, 0, 0]
>>> [follower.set_pull(20, 0), follower.turn(1, 0), follower.turn(1, 3), follower.place, follower.aim]
[None, None, None, 60, 200]
>>> [follower.turn(1, 5), follower.place, follower.lost, follower.would_be()]
[None, 100, 0, (15, 300)]
>>> [follower.turn(1, 9), follower.place, follower.aim, follower.lost, follower.slips, follower.would_be()]
[None, 180, 0, 1, [(9, 1)], (18, 0)]
>>> [follower.undo(), follower.tick, follower.lost, follower.wait(15), follower.place, len(follower)]
[None, 5, 0, None, 300, 5]
>>> other = follower.fork()
>>> [other == follower, other.turn(3, 15), other.slips, other.turn(-3, 15), other.slips, other.field, other == follower]
[True, None, [(15, 1)], None, [], 300, False]
>>> follower.log
[('pull', 20, 0), ('turn', 1, 0), ('turn', 1, 3), ('turn', 1, 5), ('wait', 15)]

>>> from poleslips.live import Follower
>>> Follower((400, 100), -150).would_be()
(None, -150)

>>> from poleslips.live import Follower
>>> Follower((400, 100), 200)
raises InvalidPlace

>>> from poleslips.live import Follower
>>> follower = Follower((400, 100), 0)
>>> follower.wait(5)
>>> follower.turn(1, 4)
raises InvalidTick
""",
    34: """
>>> from poleslips.texts import format_drive, format_loads, format_stretches, format_wheel
>>> [format_wheel((400, 100)), format_drive([(0, 2), (10, -1)]), format_loads([(20, 4), (25, 1)])]
['400/100', '0+2 10-1', '20*4 25']
>>> [format_stretches([(-90, -80), (14, 14), (34, 100)]), format_stretches([])]
['-90..-80 14 34..100', '']
""",
    35: """
>>> from poleslips.texts import parse_drive, parse_loads, parse_wheel
>>> [parse_wheel("5/2"), parse_drive("0+2 10-1"), parse_loads("20*4 25 0"), parse_drive("")]
[(5, 2), [(0, 2), (10, -1)], [(20, 4), (25, 1), (0, 1)], []]

>>> from poleslips.texts import parse_drive
>>> parse_drive("0+2 0-1")
raises InvalidSyntax(word=1)

>>> from poleslips.texts import parse_loads
>>> parse_loads("20*4 25*1")
raises InvalidSyntax(word=1)

>>> from poleslips.texts import parse_wheel
>>> parse_wheel("400/200")
raises InvalidSyntax(word=0)
""",
    37: """
>>> from poleslips.console import Console
>>> console = Console()
>>> [console.execute(command) for command in ["drive 0+1", "at 4", "at 12", "risk", "final"]]
['ok', '40..80', '100', 'none', '100']
>>> [console.execute(command) for command in ["loads 20 30", "drive 0+2 4+1", "at 5", "risk", "loss", "final"]]
['ok', 'ok', '50..79 120..150', '1', 'none', '-100 300']
>>> [console.execute(command) for command in ["drive 0+2 10-1 12-1 13-1", "kept 100", "quick 4"]]
['ok', '0..14 34..100', '0+2 5+1 10+1']
>>> [console.execute(command) for command in ["drive 0+1 3+1 5+1 9+1", "play 20", "drive", "play 20", "quick 0"]]
['ok', '0 60 100 180', 'ok', 'none', 'none']

>>> from poleslips.console import Console
>>> Console().execute("start 300 400")
raises InvalidStart(index=0)

>>> from poleslips.console import Console
>>> Console().execute("drive 0+0")
raises InvalidCommand
""",
}


def told_by(source, names):
    """What a line of an example tells: the answer as Python writes it, or the error with its fields."""
    try:
        try:
            code = compile(source, "example", "eval")
        except SyntaxError:
            exec(source, names)
            return ""
        answer = eval(code, names)
    except errors.WheelError as error:
        fields = ", ".join(f"{name}={value!r}" for name, value in vars(error).items())
        return f"raises {type(error).__name__}" + (f"({fields})" if fields else "")
    return "" if answer is None else repr(answer)


class Examples(unittest.TestCase):
    def test_examples(self):
        for point, text in EXAMPLES.items():
            with self.subTest(point=point):
                names = {}
                examples = doctest.DocTestParser().get_examples(text)
                self.assertEqual(len(examples), len(re.findall("^>>> ", text, re.MULTILINE)))
                for example in examples:
                    self.assertEqual(told_by(example.source, names), example.want.rstrip(), example.source)


if __name__ == "__main__":
    unittest.main()
