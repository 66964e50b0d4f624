"""A stop: the place of the wheel is never less than it."""

from poleslips.checks import check_drive, check_number_between, check_number_from, check_pull, check_pull_from
from poleslips.checks import check_tick, check_wheel, is_number, is_number_from, is_pair
from poleslips.errors import InvalidPlace, InvalidStart
from poleslips.motion import aim_at, moved
from poleslips.spread import as_stretches, drawn, spread

MOST_STEPS = 400


def check_stop(stop, place):
    """Raise InvalidPlace unless the value is a stop that is not greater than the place."""
    if not is_number(stop) or stop > place:
        raise InvalidPlace("the stop is not an integer that is at most the place")


def check_span(span):
    """Raise InvalidStart unless the value is a span."""
    if not is_pair(span):
        raise InvalidStart(None)
    least, greatest = span
    if not is_number(least):
        raise InvalidStart(0)
    if not is_number_from(greatest, least):
        raise InvalidStart(1)


def play_stop(wheel, pull, place, stop, drive):
    """For each item its tick and the place at this tick, if the wheel is stopped."""
    check_wheel(wheel)
    check_pull(pull)
    if not is_number(place):
        raise InvalidPlace("the place is not an integer")
    check_stop(stop, place)
    check_drive(drive)
    now = field = 0
    found = []
    for tick, turn in drive:
        # Between the stop and an aim below it all places have this aim: stopped at the end is stopped in each tick.
        place = max(stop, moved(wheel, field, place, pull, tick - now))
        now = tick
        field += turn * wheel[1]
        found.append((tick, place))
    return found


def stopped_spread(wheel, field, stretches, stop, short, long):
    """The stretches of all places behind ways from short to long in a field that stays, if the wheel is stopped."""
    behind = spread(wheel, field, stretches, short, long)
    return as_stretches([(max(stop, least), max(stop, greatest)) for least, greatest in behind])


def stop_places(wheel, low, high, span, stop, drive, tick):
    """The stretches of all places that the wheel can have at a tick, from anywhere in the span."""
    check_wheel(wheel)
    check_pull(low)
    check_pull_from(high, low)
    check_span(span)
    check_stop(stop, span[0])
    check_drive(drive)
    check_tick(tick)
    now = field = 0
    stretches = [span]
    for at, turn in drive:
        if at > tick:
            break
        stretches = stopped_spread(wheel, field, stretches, stop, low * (at - now), high * (at - now))
        now = at
        field += turn * wheel[1]
    return stopped_spread(wheel, field, stretches, stop, low * (tick - now), high * (tick - now))


def check_home(wheel, low, high, span, stop, every, most):
    """Raise the error of the first of the seven arguments that is wrong."""
    check_wheel(wheel)
    check_pull_from(low, 1)
    check_pull_from(high, low)
    check_span(span)
    check_stop(stop, span[0])
    check_number_from(every, 1)
    check_number_between(most, 0, MOST_STEPS)


def stopped_end(wheel, field, place, stop):
    """The place at which a stopped wheel comes to stand in a field that stays."""
    return max(stop, aim_at(wheel, field, place))


def home_of(wheel, low, high, span, stop, every, most):
    """The number of steps that gather all places, and the one place behind them, None if there is none."""
    # No wheel passes another one, so the hindmost and the foremost one tell where all others are.
    least, greatest = span
    for steps in range(most + 1):
        field = -steps * wheel[1]
        home = stopped_end(wheel, field, least, stop)
        if home == stopped_end(wheel, field, greatest, stop):
            return steps, home
        if steps > 0:
            # The first step comes at tick 0, so no pull lies ahead of it.
            least, greatest = ends_behind(wheel, field, (least, greatest), stop, low * every, high * every)
    return None


def ends_behind(wheel, field, ends, stop, short, long):
    """The hindmost and the foremost place behind ways from short to long, from the hindmost and the foremost one."""
    least, greatest = ends
    least = drawn(aim_at(wheel, field, least), (least, least), short, long)[0]
    greatest = drawn(aim_at(wheel, field, greatest), (greatest, greatest), short, long)[1]
    return max(stop, least), max(stop, greatest)


def home_steps(wheel, low, high, span, stop, every, most):
    """The least number of steps behind which the wheel surely comes to stand at one place, None if there is none."""
    check_home(wheel, low, high, span, stop, every, most)
    home = home_of(wheel, low, high, span, stop, every, most)
    return None if home is None else home[0]


def home_place(wheel, low, high, span, stop, every, most):
    """The one place at which the wheel surely comes to stand behind these steps, None if there is none."""
    check_home(wheel, low, high, span, stop, every, most)
    home = home_of(wheel, low, high, span, stop, every, most)
    return None if home is None else home[1]
