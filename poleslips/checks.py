"""The checks of arguments that the functions of the package share."""

from poleslips.errors import InvalidDrive, InvalidNumber, InvalidPlace, InvalidPull, InvalidTick, InvalidWheel
from poleslips.motion import back_part, fore_part

MOST_ITEMS = 60


def is_number(value):
    """Whether a value is an integer; True and False are none."""
    return isinstance(value, int) and not isinstance(value, bool)


def is_number_from(value, least):
    """Whether a value is an integer that is not below the least one."""
    return is_number(value) and value >= least


def is_pair(value):
    """Whether a value is a tuple of two items."""
    return isinstance(value, tuple) and len(value) == 2


def check_wheel(wheel):
    """Raise InvalidWheel unless the value is a wheel."""
    if not is_pair(wheel):
        raise InvalidWheel(None)
    whole, step = wheel
    if not is_number_from(whole, 3):
        raise InvalidWheel(0)
    if not is_number_from(step, 1) or step > (whole - 1) // 2:
        raise InvalidWheel(1)


def is_item(value, least_tick):
    """Whether a value is an item of a drive whose tick is not below the least one."""
    if not is_pair(value):
        return False
    tick, turn = value
    return is_number_from(tick, least_tick) and is_number(turn) and turn != 0


def check_drive(drive):
    """Raise InvalidDrive unless the value is a drive."""
    if not isinstance(drive, list) or len(drive) > MOST_ITEMS:
        raise InvalidDrive(None)
    least_tick = 0
    for index, item in enumerate(drive):
        if not is_item(item, least_tick):
            raise InvalidDrive(index)
        least_tick = item[0] + 1


def check_number(value):
    """Raise InvalidNumber unless the value is an integer."""
    if not is_number(value):
        raise InvalidNumber("the number is not an integer")


def check_number_from(value, least):
    """Raise InvalidNumber unless the value is an integer from the least one on."""
    if not is_number_from(value, least):
        raise InvalidNumber(f"the number is not an integer from {least} on")


def check_pull(pull):
    """Raise InvalidPull unless the value is a pull."""
    if not is_number_from(pull, 0):
        raise InvalidPull("the pull is not an integer from 0 on")


def check_tick(tick):
    """Raise InvalidTick unless the value is a tick."""
    if not is_number_from(tick, 0):
        raise InvalidTick("the tick is not an integer from 0 on")


def check_place(place):
    """Raise InvalidPlace unless the value is a place."""
    if not is_number(place):
        raise InvalidPlace("the place is not an integer")


def check_beginning(wheel, place):
    """Raise InvalidPlace unless the value is a beginning place of the wheel."""
    if not is_number_from(place, -fore_part(wheel)) or place > back_part(wheel):
        raise InvalidPlace("the place is not a beginning place of the wheel")
