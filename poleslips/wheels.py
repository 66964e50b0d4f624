"""Wheels, and how one is pulled while the field stays."""

from poleslips.checks import check_number, check_number_from, check_place, check_pull, check_wheel
from poleslips.errors import InvalidWheel
from poleslips.motion import aim_at, back_part, fore_part, lost_at, moved, rest_at


def is_wheel(value):
    """Whether any value is a wheel."""
    try:
        check_wheel(value)
    except InvalidWheel:
        return False
    return True


def fore_of(wheel):
    """The greatest rest of the wheel."""
    check_wheel(wheel)
    return fore_part(wheel)


def back_of(wheel):
    """The least rest of the wheel, without its sign."""
    check_wheel(wheel)
    return back_part(wheel)


def check_spot(wheel, field, place):
    """Raise the error of the first of the three arguments that is wrong."""
    check_wheel(wheel)
    check_number(field)
    check_place(place)


def aim_of(wheel, field, place):
    """The place that the wheel is pulled to."""
    check_spot(wheel, field, place)
    return aim_at(wheel, field, place)


def rest_of(wheel, field, place):
    """The aim minus the place."""
    check_spot(wheel, field, place)
    return rest_at(wheel, field, place)


def lost_of(wheel, field, place):
    """The rounds lost, below 0 if rounds are gained."""
    check_spot(wheel, field, place)
    return lost_at(wheel, field, place)


def pulled(wheel, field, place, pull, ticks):
    """The place behind so many ticks with this pull, if the field stays."""
    check_spot(wheel, field, place)
    check_pull(pull)
    check_number_from(ticks, 0)
    return moved(wheel, field, place, pull, ticks)
