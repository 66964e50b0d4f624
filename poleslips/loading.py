"""How a wheel goes with a loads list, and which papers there are. Nothing but a paper is checked here."""

from poleslips.checks import check_loads, is_number_from, is_pair
from poleslips.errors import InvalidLoads
from poleslips.motion import lost_at, moved


def pull_changes(loads):
    """For each tick at which a load begins its pull, and the pull 0 for the tick behind the last one."""
    changes = {}
    begin = 0
    for pull, ticks in loads:
        changes[begin] = pull
        begin += ticks
    changes[begin] = 0
    return changes


def spots_at(wheel, loads, place, drive, ticks):
    """For each of the ascending ticks a tuple (tick, field, place) of the wheel with these loads."""
    turns, changes = dict(drive), pull_changes(loads)
    spots = {}
    now = field = pull = 0
    for tick in sorted(set(list(turns) + list(changes) + ticks)):
        place = moved(wheel, field, place, pull, tick - now)
        now = tick
        field += turns.get(tick, 0) * wheel[1]
        pull = changes.get(tick, pull)
        spots[tick] = tick, field, place
    return [spots[tick] for tick in ticks]


def loaded_play(wheel, loads, place, drive):
    """For each item its tick, the place at this tick and the rounds lost at it, with these loads."""
    spots = spots_at(wheel, loads, place, drive, [tick for tick, _ in drive])
    return [(tick, there, lost_at(wheel, field, there)) for tick, field, there in spots]


def is_loads(value):
    """Whether a value is a loads list."""
    try:
        check_loads(value)
    except InvalidLoads:
        return False
    return True


def is_paper(low, high, start, tick, value):
    """Whether any value is a paper for a tick."""
    if not is_pair(value):
        return False
    place, loads = value
    if not is_number_from(place, start[0]) or place > start[1] or not is_loads(loads):
        return False
    if not all([low <= pull <= high for pull, _ in loads]):
        return False
    return sum([ticks for _, ticks in loads]) >= tick
