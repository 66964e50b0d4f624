"""The examples of the document, as they stand there."""

import doctest
import unittest

EXAMPLES = {
    11: """
>>> from poleslips.wheels import back_of, fore_of, is_wheel
>>> [is_wheel(value) for value in [(400, 100), (3, 1), (3, 2), (400, 200), [400, 100], (400, True)]]
[True, True, False, False, False, False]
>>> [(fore_of(wheel), back_of(wheel)) for wheel in [(400, 100), (5, 2)]]
[(200, 199), (2, 2)]

>>> from poleslips.wheels import aim_of, lost_of, rest_of
>>> some = [(0, -200), (0, 200), (0, 201), (1000, 350), (-600, 0)]
>>> [aim_of((400, 100), field, place) for field, place in some]
[0, 400, 400, 200, 200]
>>> [(rest_of((400, 100), field, place), lost_of((400, 100), field, place)) for field, place in some]
[(200, 0), (200, -1), (199, -1), (-150, 2), (200, -2)]

>>> from poleslips.wheels import pulled
>>> [pulled((400, 100), 0, -150, 20, ticks) for ticks in [0, 3, 7, 8, 10 ** 29]]
[-150, -90, -10, 0, 0]
>>> [pulled((400, 100), 0, 200, 30, 3), pulled((400, 100), 0, 200, 0, 10 ** 29)]
[290, 200]
""",
    12: """
>>> from poleslips.drives import field_at, is_drive, total_turn
>>> [is_drive(value) for value in [[], [(0, 2), (4, -1)], [(4, 2), (4, 1)], [(0, 0)], ((0, 2),)]]
[True, True, False, False, False]
>>> [field_at((400, 100), [(0, 2), (4, -1), (9, 3)], tick) for tick in [0, 3, 4, 8, 9, 10 ** 29]]
[200, 200, 100, 100, 400, 400]
>>> [total_turn([(0, 2), (4, -1), (9, 3)]), total_turn([])]
[4, 0]
""",
    13: """
>>> from poleslips.drives import even_drive, joined
>>> [even_drive(3, 5, -2), even_drive(0, 1, 1), joined([(0, 1), (4, 2)], [(2, 1), (4, -2), (7, 1)])]
[[(0, -2), (5, -2), (10, -2)], [], [(0, 1), (2, 1), (7, 1)]]

>>> from poleslips.drives import delayed, slowed, turned_back
>>> [delayed([(0, 1), (4, 2)], 3), slowed([(0, 1), (4, 2)], 3), turned_back([(0, 1), (4, -2)])]
[[(3, 1), (7, 2)], [(0, 1), (12, 2)], [(0, -1), (4, 2)]]
""",
    14: """
>>> from poleslips.plays import is_kept, play, slips
>>> wheel, drive = (400, 100), [(0, 1), (3, 1), (5, 1), (9, 1)]
>>> [play(wheel, pull, 0, drive) for pull in [20, 23]]
[[(0, 0, 0), (3, 60, 0), (5, 100, 0), (9, 180, 1)], [(0, 0, 0), (3, 69, 0), (5, 115, 0), (9, 207, 0)]]
>>> [(slips(wheel, pull, 0, drive), is_kept(wheel, pull, 0, drive)) for pull in [20, 23]]
[([(3, 1)], False), ([], True)]
>>> [slips(wheel, 50, 0, [(0, turn)]) for turn in [2, -2, 6, -6, 10 ** 20]]
[[], [(0, -1)], [(0, 1)], [(0, -2)], [(0, 25000000000000000000)]]
""",
    15: """
>>> from poleslips.plays import stands_from, state_at
>>> wheel, drive = (400, 100), [(0, 1), (3, 1), (5, 1), (9, 1)]
>>> [state_at(wheel, 20, 0, drive, tick) for tick in [0, 4, 9, 12, 18, 10 ** 29]]
[(100, 0, 0), (200, 80, 0), (400, 180, 1), (400, 120, 1), (400, 0, 1), (400, 0, 1)]
>>> [stands_from(wheel, pull, 0, drive) for pull in [20, 23, 0]]
[18, 18, 9]
>>> [stands_from(wheel, 7, -150, []), stands_from(wheel, 0, -150, []), stands_from(wheel, 0, 0, [])]
[22, None, 0]
""",
    16: """
>>> from poleslips.steady import first_slip
>>> wheel = (400, 100)
>>> [first_slip(wheel, 20, 4, place) for place in (0, 199, -200)]
[6, 7, 0]
>>> [first_slip(wheel, 25, 4, 0), first_slip((10 ** 29, 2), 1, 1, 0)]
[None, 49999999999999999999999999999]

>>> from poleslips.steady import least_every
>>> [least_every((400, 100), pull) for pull in (20, 30, 100, 0)]
[5, 4, 1, None]
""",
    17: """
>>> from poleslips.steady import lost_behind
>>> [lost_behind((400, 100), 20, 4, 0, many) for many in (0, 6, 7, 14, 15, 10 ** 20)]
[0, 0, 1, 1, 2, 12500000000000000000]

>>> from poleslips.steady import pace
>>> [pace((400, 100), 20, 4), pace((400, 100), 25, 4), pace((400, 100), 0, 1)]
[(1, 8), (0, 1), (1, 4)]
""",
    18: """
>>> from poleslips.keeping import kept_pulls
>>> wheel = (400, 100)
>>> [kept_pulls(wheel, 0, [(0, 1), (3, 1), (5, 1), (9, 1)], 100), kept_pulls(wheel, 0, [(0, 2), (10, -2)], 50)]
[[(23, 100)], [(0, 19)]]
>>> kept_pulls(wheel, 0, [(0, 2), (10, -1), (12, -1), (13, -1)], 100)
[(0, 14), (34, 100)]

>>> from poleslips.keeping import next_change
>>> drive = [(0, 2), (10, -1), (12, -1), (13, -1)]
>>> [next_change((400, 100), 0, drive, pull) for pull in (0, 14, 15, 34)]
[15, 15, 34, None]
""",
    19: """
>>> from poleslips.places import lost_rounds, places
>>> wheel, drive = (400, 100), [(0, 2), (4, 1)]
>>> [places(wheel, 20, 30, (0, 0), drive, tick) for tick in (0, 4, 5, 40)]
[[(0, 0)], [(80, 120)], [(50, 79), (120, 150)], [(-100, -100), (300, 300)]]
>>> [lost_rounds(wheel, 20, 30, (0, 0), drive, tick) for tick in (3, 4)]
[[0], [0, 1]]
""",
    20: """
>>> from poleslips.places import final_places
>>> wheel, drive = (400, 100), [(0, 2), (4, 1)]
>>> [final_places(wheel, 20, 30, (0, 0), drive), final_places(wheel, 25, 30, (0, 0), drive), final_places(wheel, 5, 5, (-9, 9), [])]
[[-100, 300], [300], [0]]
""",
    21: """
>>> from poleslips.losses import can_keep, first_loss, first_risk, is_sure
>>> wheel, drive, some = (400, 100), [(0, 2), (4, 1)], [(25, 30), (20, 30), (10, 20)]
>>> [(is_sure(wheel, low, high, (0, 0), drive), can_keep(wheel, low, high, (0, 0), drive)) for low, high in some]
[(True, True), (False, True), (False, False)]
>>> [(first_risk(wheel, low, high, (0, 0), drive), first_loss(wheel, low, high, (0, 0), drive)) for low, high in some]
[(None, None), (1, None), (1, 1)]

>>> from poleslips.losses import kept_span
>>> wheel, drive = (400, 100), [(0, 2), (4, 1)]
>>> [kept_span(wheel, 20, 30, (0, 0), drive, 1), kept_span(wheel, 10, 20, (0, 0), drive, 1), kept_span(wheel, 10, 20, (0, 0), drive, 0)]
[(100, 120), None, (0, 0)]
""",
}


class Examples(unittest.TestCase):
    def test_examples(self):
        for point, text in EXAMPLES.items():
            with self.subTest(point=point):
                example = doctest.DocTestParser().get_doctest(text, {}, f"point {point}", None, 0)
                told = []
                results = doctest.DocTestRunner(verbose=False).run(example, out=told.append)
                self.assertGreater(results.attempted, 0)
                self.assertEqual(results.failed, 0, "".join(told))


if __name__ == "__main__":
    unittest.main()
