"""Where a wheel can be at a tick, if the pull of each tick is any integer from low to high."""

from poleslips.checks import check_tick, check_ways
from poleslips.spread import aims_of_stretches, spread


def spread_at(wheel, low, high, start, drive, tick):
    """The field at a tick, and the stretches of the places there."""
    now = field = 0
    stretches = [start]
    for at, turn in drive:
        if at > tick:
            break
        stretches = spread(wheel, field, stretches, low * (at - now), high * (at - now))
        now = at
        field += turn * wheel[1]
    return field, spread(wheel, field, stretches, low * (tick - now), high * (tick - now))


def places(wheel, low, high, start, drive, tick):
    """The stretches of all places that the wheel has at a tick in some way."""
    check_ways(wheel, low, high, start, drive)
    check_tick(tick)
    return spread_at(wheel, low, high, start, drive, tick)[1]


def lost_rounds(wheel, low, high, start, drive, tick):
    """The numbers of rounds that are lost at a tick in some way, ascending."""
    check_ways(wheel, low, high, start, drive)
    check_tick(tick)
    field, stretches = spread_at(wheel, low, high, start, drive, tick)
    return sorted([(field - aim) // wheel[0] for aim in aims_of_stretches(wheel, field, stretches)])


def final_places(wheel, low, high, start, drive):
    """The aims that the wheel has at the last item in some way, ascending."""
    check_ways(wheel, low, high, start, drive)
    last = drive[-1][0] if drive else 0
    field, stretches = spread_at(wheel, low, high, start, drive, last)
    return aims_of_stretches(wheel, field, stretches)
