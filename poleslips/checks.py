"""The checks of arguments that the functions of the package share."""

from poleslips.errors import InvalidDrive, InvalidLoads, InvalidNumber, InvalidPlace, InvalidPull, InvalidStart
from poleslips.errors import InvalidTick, InvalidWheel
from poleslips.motion import back_part, fore_part

MOST_ITEMS = 60
MOST_LOADS = 400


def is_number(value):
    """Whether a value is an integer; True and False are none."""
    return isinstance(value, int) and not isinstance(value, bool)


def is_number_from(value, least):
    """Whether a value is an integer that is not below the least one."""
    return is_number(value) and value >= least


def is_pair(value):
    """Whether a value is a tuple of two items."""
    return isinstance(value, tuple) and len(value) == 2


def check_wheel(wheel):
    """Raise InvalidWheel unless the value is a wheel."""
    if not is_pair(wheel):
        raise InvalidWheel(None)
    whole, step = wheel
    if not is_number_from(whole, 3):
        raise InvalidWheel(0)
    if not is_number_from(step, 1) or step > (whole - 1) // 2:
        raise InvalidWheel(1)


def is_item(value, least_tick):
    """Whether a value is an item of a drive whose tick is not below the least one."""
    if not is_pair(value):
        return False
    tick, turn = value
    return is_number_from(tick, least_tick) and is_number(turn) and turn != 0


def check_drive(drive, ahead=False):
    """Raise InvalidDrive unless the value is a drive, and all of its turns are ahead if this is asked for."""
    if not isinstance(drive, list) or len(drive) > MOST_ITEMS:
        raise InvalidDrive(None)
    least_tick = 0
    for index, item in enumerate(drive):
        if not is_item(item, least_tick) or (ahead and item[1] < 1):
            raise InvalidDrive(index)
        least_tick = item[0] + 1


def is_load(value):
    """Whether a value is a tuple of a loads list."""
    if not is_pair(value):
        return False
    pull, ticks = value
    return is_number_from(pull, 0) and is_number_from(ticks, 1)


def check_loads(loads):
    """Raise InvalidLoads unless the value is a loads list."""
    if not isinstance(loads, list) or len(loads) > MOST_LOADS:
        raise InvalidLoads(None)
    for index, load in enumerate(loads):
        if not is_load(load):
            raise InvalidLoads(index)


def check_number(value):
    """Raise InvalidNumber unless the value is an integer."""
    if not is_number(value):
        raise InvalidNumber("the number is not an integer")


def check_number_from(value, least):
    """Raise InvalidNumber unless the value is an integer from the least one on."""
    if not is_number_from(value, least):
        raise InvalidNumber(f"the number is not an integer from {least} on")


def check_number_between(value, least, most):
    """Raise InvalidNumber unless the value is an integer from the least to the greatest one."""
    if not is_number_from(value, least) or value > most:
        raise InvalidNumber(f"the number is not an integer from {least} to {most}")


def check_pull(pull):
    """Raise InvalidPull unless the value is a pull."""
    check_pull_from(pull, 0)


def check_pull_from(pull, least):
    """Raise InvalidPull unless the value is a pull from the least one on."""
    if not is_number_from(pull, least):
        raise InvalidPull("the pull is not an integer, or it is too low")


def check_tick(tick):
    """Raise InvalidTick unless the value is a tick."""
    if not is_number_from(tick, 0):
        raise InvalidTick("the tick is not an integer from 0 on")


def check_place(place):
    """Raise InvalidPlace unless the value is a place."""
    if not is_number(place):
        raise InvalidPlace("the place is not an integer")


def is_beginning(wheel, value):
    """Whether a value is a beginning place of the wheel."""
    return is_number_from(value, -fore_part(wheel)) and value <= back_part(wheel)


def check_beginning(wheel, place):
    """Raise InvalidPlace unless the value is a beginning place of the wheel."""
    if not is_beginning(wheel, place):
        raise InvalidPlace("the place is not a beginning place of the wheel")


def check_start(wheel, start):
    """Raise InvalidStart unless the value is a start of the wheel."""
    if not is_pair(start):
        raise InvalidStart(None)
    least, greatest = start
    if not is_beginning(wheel, least):
        raise InvalidStart(0)
    if not is_beginning(wheel, greatest) or greatest < least:
        raise InvalidStart(1)


def check_ways(wheel, low, high, start, drive):
    """Raise the error of the first of the five arguments that is wrong."""
    check_wheel(wheel)
    check_pull(low)
    check_pull_from(high, low)
    check_start(wheel, start)
    check_drive(drive)
