"""What several tests need: wrong values, a wheel pulled tick by tick, a guard of time."""

import contextlib
import decimal
import fractions
import functools
import signal

HUGE = 10 ** 28  # a number of 29 digits

# Values of no kind that any function takes as a number.
NO_NUMBERS = [
    None, True, False, 0.0, 1.0, 5.0, 200.0, -1.0, float("inf"), float("nan"), 1j, "", "0", "1", b"1", (), (1,), [],
    [1], {}, {1: 1}, set(), range(3), object(), int, len, fractions.Fraction(3), decimal.Decimal(3),
]

# Wrong wheels, each with the index of its error.
WRONG_WHEELS = [(value, None) for value in NO_NUMBERS] + [
    (400, None), ([400, 100], None), ((400,), None), ((400, 100, 1), None), ((400, 100, 100, 100), None),
    ("ab", None), (b"ab", None), ({400: 1, 100: 1}, None), ({400, 100}, None), (range(3, 5), None),
    (((400, 100),), None), ([(400, 100)], None), ((None,), None), ([None, None], None),
    ((2, 1), 0), ((1, 1), 0), ((0, 0), 0), ((-400, 100), 0), ((-400, -100), 0), ((2, 0), 0),
    ((None, None), 0), ((-HUGE, 1), 0), ((2, "1"), 0),
    ((400, 0), 1), ((400, -1), 1), ((400, 200), 1), ((401, 201), 1), ((400, 400), 1), ((400, HUGE), 1),
    ((3, 0), 1), ((3, 2), 1), ((4, 2), 1), ((5, 3), 1), ((6, 3), 1), ((3, True), 1),
    ((10 ** 29, 5 * 10 ** 28), 1), ((10 ** 29 + 1, 5 * 10 ** 28 + 1), 1), ((10 ** 29, -1), 1),
]
WRONG_WHEELS += [((value, 1), 0) for value in NO_NUMBERS]
WRONG_WHEELS += [((400, value), 1) for value in NO_NUMBERS]

SIXTY = [(3 * number, number % 7 - 8) for number in range(60)]

# Wrong drives, each with the index of its error.
WRONG_DRIVES = [(value, None) for value in NO_NUMBERS if not isinstance(value, list)] + [
    (((0, 1),), None), ((0, 1), None), ("ab", None), ({0: 1}, None), ({(0, 1)}, None), (0, None),
    (SIXTY + [(180, 1)], None), (tuple(SIXTY), None), ([None] * 61, None), ([(0, 1)] * 61, None),
    ([[0, 1]], 0), ([()], 0), ([(0,)], 0), ([(0, 1, 1)], 0), ([0], 0), ([0, 1], 0), (["ab"], 0), ([[]], 0),
    ([{0: 1, 1: 1}], 0), ([[(0, 1)]], 0), ([((0, 1),)], 0),
    ([(-1, 1)], 0), ([(-HUGE, 1)], 0), ([(0, 0)], 0), ([(0, 1), None], 1), ([(0, 1), [1, 1]], 1),
    ([(0, 1), (0, 1)], 1), ([(5, 1), (4, 1)], 1), ([(0, 1), (1, 0)], 1), ([(0, 1), (-1, 1)], 1),
    ([(0, 1), (0, -1)], 1), ([(5, 1), (5, 2), None], 1), ([(0, 1), (4, 1), (3, 1)], 2), ([(0, 1), (4, 1), (4, -1)], 2),
    ([(1, 1), (2, 0), (3, 1), (3, 1)], 1), ([(0, 1), (True, 1)], 1), ([(0, 1), (1, True)], 1),
    ([(0, 1), (4, 1), (2, 1), (9, 1)], 2), ([(HUGE, 1), (HUGE, 1)], 1), ([(0, 1), (HUGE, 1), (5, 1)], 2),
    ([(0, 1), (1,)], 1), ([(0, 1), (1, 1, 1)], 1), ([(0, 1), (1, 1), (2, 1), "ab"], 3),
    (SIXTY[:59] + [(177, 0)], 59), (SIXTY[:59] + [(174, 1)], 59), (SIXTY[:59] + [None], 59), ([None] * 60, 0),
]
WRONG_DRIVES += [([(value, 1)], 0) for value in NO_NUMBERS]
WRONG_DRIVES += [([(0, value)], 0) for value in NO_NUMBERS]
WRONG_DRIVES += [([value], 0) for value in NO_NUMBERS]
WRONG_DRIVES += [([(0, 1), (value, 1)], 1) for value in NO_NUMBERS]

# Wrong starts of the wheel (400, 100), each with the index of its error.
WRONG_STARTS = [(value, None) for value in NO_NUMBERS] + [
    (0, None), ([0, 0], None), ((0,), None), ((0, 0, 0), None), ("ab", None), (b"ab", None), ({0: 1, 1: 1}, None),
    ({0, 1}, None), (range(2), None), (((0, 0),), None), ([(0, 0)], None), ([None, None], None),
    ((-201, 0), 0), ((200, 200), 0), ((-201, 200), 0), ((200, 0), 0), ((-HUGE, HUGE), 0), ((HUGE, HUGE), 0),
    ((None, None), 0), ((True, 300), 0), ((-201, None), 0), ((400, 400), 0),
    ((0, -1), 1), ((0, 200), 1), ((199, 198), 1), ((-200, -201), 1), ((-200, 200), 1), ((0, -201), 1), ((0, HUGE), 1),
    ((0, -HUGE), 1), ((5, 4), 1), ((-5, -6), 1),
]
WRONG_STARTS += [((value, 0), 0) for value in NO_NUMBERS]
WRONG_STARTS += [((0, value), 1) for value in NO_NUMBERS]

LOADS_400 = [(number % 5, 1 + number % 3) for number in range(400)]

# Wrong loads lists, each with the index of its error.
WRONG_LOADS = [(value, None) for value in NO_NUMBERS if not isinstance(value, list)] + [
    (((0, 1),), None), ((0, 1), None), ("ab", None), ({0: 1}, None), (0, None), (LOADS_400 + [(0, 1)], None),
    (tuple(LOADS_400), None), ([None] * 401, None), (iter([(0, 1)]), None),
    ([[0, 1]], 0), ([()], 0), ([(0,)], 0), ([(0, 1, 1)], 0), ([0], 0), (["ab"], 0), ([[]], 0), ([((0, 1),)], 0),
    ([(-1, 1)], 0), ([(-HUGE, 1)], 0), ([(0, 0)], 0), ([(0, -1)], 0), ([(5, -HUGE)], 0), ([(0, 1), None], 1),
    ([(0, 1), [1, 1]], 1), ([(0, 1), (1, 0)], 1), ([(0, 1), (-1, 1)], 1), ([(0, 1), (1,)], 1),
    ([(1, 1), (2, 0), (-3, 1), (3, 1)], 1), ([(0, 1), (True, 1)], 1), ([(0, 1), (1, True)], 1),
    ([(0, 1), (4, 1), (2, 1, 1), (9, 1)], 2), (LOADS_400[:399] + [(0, 0)], 399), (LOADS_400[:399] + [None], 399),
    ([None] * 400, 0),
]
WRONG_LOADS += [([(value, 1)], 0) for value in NO_NUMBERS]
WRONG_LOADS += [([(0, value)], 0) for value in NO_NUMBERS]
WRONG_LOADS += [([value], 0) for value in NO_NUMBERS]
WRONG_LOADS += [([(0, 1), (value, 1)], 1) for value in NO_NUMBERS]

SIXTY_SEEN = [(2 * number, -HUGE, HUGE) for number in range(60)]

# Wrong sightings, each with the index of its error.
WRONG_SIGHTINGS = [(value, None) for value in NO_NUMBERS if not isinstance(value, list)] + [
    (((0, 1, 2),), None), ((0, 1, 2), None), ("abc", None), ({0: 1}, None), (0, None),
    (SIXTY_SEEN + [(120, 0, 0)], None), (tuple(SIXTY_SEEN), None), ([None] * 61, None),
    ([[0, 1, 2]], 0), ([()], 0), ([(0,)], 0), ([(0, 1)], 0), ([(0, 1, 2, 3)], 0), ([0], 0), (["abc"], 0), ([[]], 0),
    ([((0, 1, 2),)], 0), ([(-1, 0, 0)], 0), ([(-HUGE, 0, 0)], 0), ([(0, 1, 0)], 0), ([(0, HUGE, -HUGE)], 0),
    ([(0, 0, 0), None], 1), ([(0, 0, 0), [1, 1, 1]], 1), ([(0, 0, 0), (0, 0, 0)], 1), ([(5, 0, 0), (4, 0, 0)], 1),
    ([(0, 0, 0), (1, 0, -1)], 1), ([(0, 0, 0), (-1, 0, 0)], 1), ([(0, 0, 0), (1, 0)], 1),
    ([(0, 0, 0), (True, 0, 0)], 1), ([(0, 0, 0), (1, False, 0)], 1), ([(0, 0, 0), (1, 0, False)], 1),
    ([(5, 0, 0), (5, 0, 0), None], 1), ([(0, 0, 0), (4, 0, 0), (3, 0, 0)], 2), ([(0, 0, 0), (9, 1, 0), (3, 0, 0)], 1),
    (SIXTY_SEEN[:59] + [(118, 1, 0)], 59), (SIXTY_SEEN[:59] + [(116, 0, 0)], 59), (SIXTY_SEEN[:59] + [None], 59),
    ([None] * 60, 0),
]
WRONG_SIGHTINGS += [([(value, 0, 0)], 0) for value in NO_NUMBERS]
WRONG_SIGHTINGS += [([(0, value, 5)], 0) for value in NO_NUMBERS]
WRONG_SIGHTINGS += [([(0, -5, value)], 0) for value in NO_NUMBERS]
WRONG_SIGHTINGS += [([value], 0) for value in NO_NUMBERS]

# Wrong spans, each with the index of its error.
WRONG_SPANS = [(value, None) for value in NO_NUMBERS] + [
    (0, None), ([0, 0], None), ((0,), None), ((0, 0, 0), None), ("ab", None), (b"ab", None), ({0: 1, 1: 1}, None),
    ({0, 1}, None), (range(2), None), (((0, 0),), None), ([(0, 0)], None), ([None, None], None),
    ((None, None), 0), ((True, 300), 0), ((None, -HUGE), 0), ((0, -1), 1), ((5, 4), 1), ((-5, -6), 1), ((0, -HUGE), 1),
    ((HUGE, HUGE - 1), 1),
]
WRONG_SPANS += [((value, 0), 0) for value in NO_NUMBERS]
WRONG_SPANS += [((0, value), 1) for value in NO_NUMBERS]

GOOD_WHEELS = [
    (3, 1), (4, 1), (5, 1), (5, 2), (6, 1), (6, 2), (7, 3), (8, 3), (400, 1), (400, 100), (400, 199), (401, 200),
    (10 ** 29, 1), (10 ** 29, 5 * 10 ** 28 - 1), (10 ** 29 + 1, 5 * 10 ** 28), (10 ** 30 - 1, 5 * 10 ** 29 - 1),
]

GOOD_DRIVES = [
    [], [(0, 1)], [(0, -1)], [(7, 3)], [(0, 2), (4, -1)], [(4, 2), (5, 2), (6, -9)], [(HUGE, -HUGE)],
    [(0, HUGE), (HUGE, 1), (HUGE + 1, -HUGE)], SIXTY, [(number * HUGE, (-1) ** number * HUGE) for number in range(60)],
]

SMALL_WHEELS = [(3, 1), (4, 1), (5, 1), (5, 2), (6, 2), (7, 3), (8, 1), (9, 4)]


def beginnings(wheel):
    """All beginning places of a wheel."""
    return range(-(wheel[0] // 2), (wheel[0] - 1) // 2 + 1)


@functools.lru_cache(maxsize=100000)
def nearest(wheel, field, place):
    """The aim, looked for among the places that look like the field."""
    one = field + (place - field) // wheel[0] * wheel[0]
    alike = [one + turns * wheel[0] for turns in range(-2, 4)]
    return min(alike, key=lambda aim: (abs(aim - place), -aim))


@functools.lru_cache(maxsize=100000)
def lost_rounds(wheel, field, place):
    """The rounds lost, from the aim that `nearest` finds."""
    rounds, remainder = divmod(field - nearest(wheel, field, place), wheel[0])
    assert remainder == 0
    return rounds


@functools.lru_cache(maxsize=100000)
def pulled_once(wheel, field, place, pull):
    """The place behind one tick with this pull."""
    aim = nearest(wheel, field, place)
    if abs(aim - place) <= pull:
        return aim
    return place + pull if aim > place else place - pull


def tick_by_tick(wheel, pull, place, drive, last):
    """For each tick from 0 to the last one the tuple (field, place, lost)."""
    turns, field, states = dict(drive), 0, []
    for tick in range(last + 1):
        field += turns.get(tick, 0) * wheel[1]
        states.append((field, place, lost_rounds(wheel, field, place)))
        place = pulled_once(wheel, field, place, pull)
    return states


def pulls_of(loads):
    """The pulls of a loads list, one for each tick."""
    return [pull for pull, ticks in loads for _ in range(ticks)]


def with_pulls(wheel, pulls, place, drive, last):
    """As `tick_by_tick`, with these pulls one behind the other and the pull 0 behind them."""
    turns, field, states = dict(drive), 0, []
    for tick in range(last + 1):
        field += turns.get(tick, 0) * wheel[1]
        states.append((field, place, lost_rounds(wheel, field, place)))
        place = pulled_once(wheel, field, place, pulls[tick] if tick < len(pulls) else 0)
    return states


def walk(wheel, loads, place, drive, last):
    """The place at the last tick with a loads list, and whether there was a slip up to it, from event to event.

    For numbers of any size: all places on the way to an aim have this aim.
    """
    begins = [sum(ticks for _, ticks in loads[:index]) for index in range(len(loads) + 1)]
    events = sorted({0, last} | {at for at in begins if at < last} | {at for at, _ in drive if at <= last})
    turns, pulls = dict(drive), dict(zip(begins, [pull for pull, _ in loads] + [0]))
    field = now = pull = 0
    slipped = False
    for tick in events:
        aim, way = nearest(wheel, field, place), pull * (tick - now)
        place = aim if abs(aim - place) <= way else place + (way if aim > place else -way)
        now, pull = tick, pulls.get(tick, pull)
        before = lost_rounds(wheel, field, place)
        field += turns.get(tick, 0) * wheel[1]
        slipped = slipped or lost_rounds(wheel, field, place) != before
    return place, slipped


def seen_ways(wheel, low, high, start, drive, sightings, last):
    """What the ways with all sightings do: the index of the first misfit, and for each tick the set of the places."""
    turns = dict(drive)
    seen = {tick: (index, least, greatest) for index, (tick, least, greatest) in enumerate(sightings)}
    field, fields, sets, misfit = 0, [], [], None
    now = set(range(start[0], start[1] + 1))
    for tick in range(last + 1):
        if tick in seen:
            index, least, greatest = seen[tick]
            now = {place for place in now if least <= place <= greatest}
            if not now and misfit is None:
                misfit = index
        field += turns.get(tick, 0) * wheel[1]
        fields.append(field)
        sets.append(now)
        now = {pulled_once(wheel, field, place, pull) for place in now for pull in range(low, high + 1)}
    for tick in range(last - 1, -1, -1):
        sets[tick] = {place for place in sets[tick]
                      if any(pulled_once(wheel, fields[tick], place, pull) in sets[tick + 1]
                             for pull in range(low, high + 1))}
    return misfit, sets


def as_few(numbers):
    """The stretches of some integers, found one by one."""
    stretches = []
    for number in sorted(set(numbers)):
        if stretches and stretches[-1][1] == number - 1:
            stretches[-1] = stretches[-1][0], number
        else:
            stretches.append((number, number))
    return stretches


def all_ways(wheel, low, high, start, drive, last):
    """What all ways do, tick by tick: (fields, places, kept, firsts).

    For each tick from 0 to the last one the field, and the set of the places; for each item the set of the places of
    the ways without a slip up to it, and whether it is the first slip of some way.
    """
    turns, field, fields, places, kept, firsts = dict(drive), 0, [], [], [], []
    states = {(place, True) for place in range(start[0], start[1] + 1)}
    for tick in range(last + 1):
        if tick in turns:
            turned = field + turns[tick] * wheel[1]
            slipping = {place for place, _ in states
                        if lost_rounds(wheel, field, place) != lost_rounds(wheel, turned, place)}
            firsts.append(any(clean and place in slipping for place, clean in states))
            states = {(place, clean and place not in slipping) for place, clean in states}
            kept.append({place for place, clean in states if clean})
            field = turned
        fields.append(field)
        places.append({place for place, _ in states})
        states = {(pulled_once(wheel, field, place, pull), clean)
                  for place, clean in states for pull in range(low, high + 1)}
    return fields, places, kept, firsts


def sources(wheel, field, span, short, long, kept):
    """The spans of the places from which a place of the span is reached by ways from short to long.

    If kept, only by a wheel whose aim is the field itself.
    """
    fore, back, found = wheel[0] // 2, (wheel[0] - 1) // 2, []
    first, last = nearest(wheel, field, span[0]), nearest(wheel, field, span[1])
    for aim in range(first, last + 1, wheel[0]):
        if kept and aim != field:
            continue
        least, greatest = max(span[0], aim - fore), min(span[1], aim + back)
        if least < aim:
            found.append((max(least - long, aim - fore), min(greatest, aim - 1) - short))
        if greatest > aim:
            found.append((max(least, aim + 1) + short, min(greatest + long, aim + back)))
        if least <= aim <= greatest:
            found.append((max(aim - long, aim - fore), min(aim + long, aim + back)))
    return [span for span in found if span[0] <= span[1]]


def merged(spans):
    """Spans with the same places, of which no two overlap."""
    found = []
    for least, greatest in sorted(spans):
        if found and least <= found[-1][1]:
            found[-1] = found[-1][0], max(found[-1][1], greatest)
        else:
            found.append((least, greatest))
    return found


def some_way(wheel, low, high, start, drive, tick, place, kept=False):
    """Whether some way has the place at the tick, looked for backwards from there.

    If kept, some way without a slip at an item ahead of the tick.
    """
    spans, field = [(place, place)], sum(turn for at, turn in drive if at < tick) * wheel[1]
    for at, turn in [item for item in reversed(drive) if item[0] < tick] + [(0, 0)]:
        ticks = tick - at
        spans = merged([one for span in spans for one in sources(wheel, field, span, low * ticks, high * ticks, kept)])
        field -= turn * wheel[1]
        tick = at
    return any(least <= start[1] and greatest >= start[0] for least, greatest in spans)


@contextlib.contextmanager
def at_once(seconds=20):
    """Fail if what stands in the block does not end soon."""
    def stop(number, frame):
        raise AssertionError("no answer at once")

    before = signal.signal(signal.SIGALRM, stop)
    signal.alarm(seconds)
    try:
        yield
    finally:
        signal.alarm(0)
        signal.signal(signal.SIGALRM, before)


def outcome(function, arguments, names=None):
    """What a call raises, as (class, fields), or ("returned", the answer); by name if there are names."""
    try:
        if names is None:
            answer = function(*arguments)
        else:
            answer = function(**dict(zip(names, arguments)))
    except Exception as error:
        return type(error), {name: getattr(error, name) for name in ("index", "limit", "word") if hasattr(error, name)}
    return "returned", answer
