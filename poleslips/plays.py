"""Plays: a wheel that has the same pull in each tick of a drive."""

from poleslips.checks import check_beginning, check_drive, check_pull, check_tick, check_wheel
from poleslips.motion import lost_at, moved, ticks_to_aim


def check_play(wheel, pull, place, drive):
    """Raise the error of the first of the four arguments that is wrong."""
    check_wheel(wheel)
    check_pull(pull)
    check_beginning(wheel, place)
    check_drive(drive)


def marks_of(wheel, pull, place, drive):
    """The tuples (tick, field, place) of tick 0 ahead of all, and then of each item."""
    marks = [(0, 0, place)]
    for tick, turn in drive:
        now, field, here = marks[-1]
        there = moved(wheel, field, here, pull, tick - now)
        marks.append((tick, field + turn * wheel[1], there))
    return marks


def play(wheel, pull, place, drive):
    """For each item its tick, the place at this tick and the rounds lost at it."""
    check_play(wheel, pull, place, drive)
    marks = marks_of(wheel, pull, place, drive)
    return [(tick, here, lost_at(wheel, field, here)) for tick, field, here in marks[1:]]


def slips(wheel, pull, place, drive):
    """For each slip the index of its item and the rounds lost by it."""
    before = 0
    found = []
    for index, row in enumerate(play(wheel, pull, place, drive)):
        lost = row[2]
        if lost != before:
            found.append((index, lost - before))
        before = lost
    return found


def is_kept(wheel, pull, place, drive):
    """Whether there is no slip."""
    return slips(wheel, pull, place, drive) == []


def state_at(wheel, pull, place, drive, tick):
    """The field, the place and the rounds lost at a tick."""
    check_play(wheel, pull, place, drive)
    check_tick(tick)
    past = [item for item in drive if item[0] <= tick]
    now, field, here = marks_of(wheel, pull, place, past)[-1]
    there = moved(wheel, field, here, pull, tick - now)
    return field, there, lost_at(wheel, field, there)


def stands_from(wheel, pull, place, drive):
    """The least tick, not ahead of the last item, from which on the wheel stands."""
    check_play(wheel, pull, place, drive)
    now, field, here = marks_of(wheel, pull, place, drive)[-1]
    ticks = ticks_to_aim(wheel, field, here, pull)
    return None if ticks is None else now + ticks
