"""What several tests need: wrong values, a wheel pulled tick by tick, a guard of time."""

import contextlib
import decimal
import fractions
import signal

HUGE = 10 ** 28  # a number of 29 digits

# Values of no kind that any function takes as a number.
NO_NUMBERS = [
    None, True, False, 0.0, 1.0, 5.0, 200.0, -1.0, float("inf"), float("nan"), 1j, "", "0", "1", b"1", (), (1,), [],
    [1], {}, {1: 1}, set(), range(3), object(), int, len, fractions.Fraction(3), decimal.Decimal(3),
]

# Wrong wheels, each with the index of its error.
WRONG_WHEELS = [(value, None) for value in NO_NUMBERS] + [
    (400, None), ([400, 100], None), ((400,), None), ((400, 100, 1), None), ((400, 100, 100, 100), None),
    ("ab", None), (b"ab", None), ({400: 1, 100: 1}, None), ({400, 100}, None), (range(3, 5), None),
    (((400, 100),), None), ([(400, 100)], None), ((None,), None), ([None, None], None),
    ((2, 1), 0), ((1, 1), 0), ((0, 0), 0), ((-400, 100), 0), ((-400, -100), 0), ((2, 0), 0),
    ((None, None), 0), ((-HUGE, 1), 0), ((2, "1"), 0),
    ((400, 0), 1), ((400, -1), 1), ((400, 200), 1), ((401, 201), 1), ((400, 400), 1), ((400, HUGE), 1),
    ((3, 0), 1), ((3, 2), 1), ((4, 2), 1), ((5, 3), 1), ((6, 3), 1), ((3, True), 1),
    ((10 ** 29, 5 * 10 ** 28), 1), ((10 ** 29 + 1, 5 * 10 ** 28 + 1), 1), ((10 ** 29, -1), 1),
]
WRONG_WHEELS += [((value, 1), 0) for value in NO_NUMBERS]
WRONG_WHEELS += [((400, value), 1) for value in NO_NUMBERS]

SIXTY = [(3 * number, number % 7 - 8) for number in range(60)]

# Wrong drives, each with the index of its error.
WRONG_DRIVES = [(value, None) for value in NO_NUMBERS if not isinstance(value, list)] + [
    (((0, 1),), None), ((0, 1), None), ("ab", None), ({0: 1}, None), ({(0, 1)}, None), (0, None),
    (SIXTY + [(180, 1)], None), (tuple(SIXTY), None), ([None] * 61, None), ([(0, 1)] * 61, None),
    ([[0, 1]], 0), ([()], 0), ([(0,)], 0), ([(0, 1, 1)], 0), ([0], 0), ([0, 1], 0), (["ab"], 0), ([[]], 0),
    ([{0: 1, 1: 1}], 0), ([[(0, 1)]], 0), ([((0, 1),)], 0),
    ([(-1, 1)], 0), ([(-HUGE, 1)], 0), ([(0, 0)], 0), ([(0, 1), None], 1), ([(0, 1), [1, 1]], 1),
    ([(0, 1), (0, 1)], 1), ([(5, 1), (4, 1)], 1), ([(0, 1), (1, 0)], 1), ([(0, 1), (-1, 1)], 1),
    ([(0, 1), (0, -1)], 1), ([(5, 1), (5, 2), None], 1), ([(0, 1), (4, 1), (3, 1)], 2), ([(0, 1), (4, 1), (4, -1)], 2),
    ([(1, 1), (2, 0), (3, 1), (3, 1)], 1), ([(0, 1), (True, 1)], 1), ([(0, 1), (1, True)], 1),
    ([(0, 1), (4, 1), (2, 1), (9, 1)], 2), ([(HUGE, 1), (HUGE, 1)], 1), ([(0, 1), (HUGE, 1), (5, 1)], 2),
    ([(0, 1), (1,)], 1), ([(0, 1), (1, 1, 1)], 1), ([(0, 1), (1, 1), (2, 1), "ab"], 3),
    (SIXTY[:59] + [(177, 0)], 59), (SIXTY[:59] + [(174, 1)], 59), (SIXTY[:59] + [None], 59), ([None] * 60, 0),
]
WRONG_DRIVES += [([(value, 1)], 0) for value in NO_NUMBERS]
WRONG_DRIVES += [([(0, value)], 0) for value in NO_NUMBERS]
WRONG_DRIVES += [([value], 0) for value in NO_NUMBERS]
WRONG_DRIVES += [([(0, 1), (value, 1)], 1) for value in NO_NUMBERS]

GOOD_WHEELS = [
    (3, 1), (4, 1), (5, 1), (5, 2), (6, 1), (6, 2), (7, 3), (8, 3), (400, 1), (400, 100), (400, 199), (401, 200),
    (10 ** 29, 1), (10 ** 29, 5 * 10 ** 28 - 1), (10 ** 29 + 1, 5 * 10 ** 28), (10 ** 30 - 1, 5 * 10 ** 29 - 1),
]

GOOD_DRIVES = [
    [], [(0, 1)], [(0, -1)], [(7, 3)], [(0, 2), (4, -1)], [(4, 2), (5, 2), (6, -9)], [(HUGE, -HUGE)],
    [(0, HUGE), (HUGE, 1), (HUGE + 1, -HUGE)], SIXTY, [(number * HUGE, (-1) ** number * HUGE) for number in range(60)],
]

SMALL_WHEELS = [(3, 1), (4, 1), (5, 1), (5, 2), (6, 2), (7, 3), (8, 1), (9, 4)]


def beginnings(wheel):
    """All beginning places of a wheel."""
    return range(-(wheel[0] // 2), (wheel[0] - 1) // 2 + 1)


def nearest(wheel, field, place):
    """The aim, looked for among the places that look like the field."""
    one = field + (place - field) // wheel[0] * wheel[0]
    alike = [one + turns * wheel[0] for turns in range(-2, 4)]
    return min(alike, key=lambda aim: (abs(aim - place), -aim))


def lost_rounds(wheel, field, place):
    """The rounds lost, from the aim that `nearest` finds."""
    rounds, remainder = divmod(field - nearest(wheel, field, place), wheel[0])
    assert remainder == 0
    return rounds


def pulled_once(wheel, field, place, pull):
    """The place behind one tick with this pull."""
    aim = nearest(wheel, field, place)
    if abs(aim - place) <= pull:
        return aim
    return place + pull if aim > place else place - pull


def tick_by_tick(wheel, pull, place, drive, last):
    """For each tick from 0 to the last one the tuple (field, place, lost)."""
    turns, field, states = dict(drive), 0, []
    for tick in range(last + 1):
        field += turns.get(tick, 0) * wheel[1]
        states.append((field, place, lost_rounds(wheel, field, place)))
        place = pulled_once(wheel, field, place, pull)
    return states


@contextlib.contextmanager
def at_once(seconds=20):
    """Fail if what stands in the block does not end soon."""
    def stop(number, frame):
        raise AssertionError("no answer at once")

    before = signal.signal(signal.SIGALRM, stop)
    signal.alarm(seconds)
    try:
        yield
    finally:
        signal.alarm(0)
        signal.signal(signal.SIGALRM, before)


def outcome(function, arguments, names=None):
    """What a call raises, as (class, fields), or ("returned", the answer); by name if there are names."""
    try:
        if names is None:
            answer = function(*arguments)
        else:
            answer = function(**dict(zip(names, arguments)))
    except Exception as error:
        return type(error), {name: getattr(error, name) for name in ("index", "limit") if hasattr(error, name)}
    return "returned", answer
