"""Drives: lists of turns of the field, and ways to make new ones."""

from poleslips.checks import MOST_ITEMS, check_drive, check_number, check_number_between, check_number_from
from poleslips.checks import check_tick, check_wheel
from poleslips.errors import InvalidDrive, InvalidNumber, TooLarge


def is_drive(value):
    """Whether any value is a drive."""
    try:
        check_drive(value)
    except InvalidDrive:
        return False
    return True


def field_at(wheel, drive, tick):
    """The field at a tick, behind the item at this tick if there is one."""
    check_wheel(wheel)
    check_drive(drive)
    check_tick(tick)
    return wheel[1] * sum([turn for at, turn in drive if at <= tick])


def total_turn(drive):
    """The sum of all turns."""
    check_drive(drive)
    return sum([turn for _, turn in drive])


def even_drive(count, every, turn):
    """The drive of so many equal turns, one each `every` ticks from tick 0 on."""
    check_number_between(count, 0, MOST_ITEMS)
    check_number_from(every, 1)
    check_number(turn)
    if turn == 0:
        raise InvalidNumber("a turn is not 0")
    return [(index * every, turn) for index in range(count)]


def summed(items):
    """The items by ascending ticks; turns at the same tick add up, and none is 0."""
    turns = {}
    for tick, turn in items:
        turns[tick] = turns.get(tick, 0) + turn
    return [(tick, turns[tick]) for tick in sorted(turns) if turns[tick] != 0]


def joined(one, other):
    """The drive with the items of both; turns at the same tick add up."""
    check_drive(one)
    check_drive(other)
    items = summed(one + other)
    if len(items) > MOST_ITEMS:
        raise TooLarge(MOST_ITEMS)
    return items


def delayed(drive, by):
    """The drive with all items so many ticks later."""
    check_drive(drive)
    check_number_from(by, 0)
    return [(tick + by, turn) for tick, turn in drive]


def slowed(drive, by):
    """The drive with each tick multiplied."""
    check_drive(drive)
    check_number_from(by, 1)
    return [(tick * by, turn) for tick, turn in drive]


def turned_back(drive):
    """The drive with each turn the other way round."""
    check_drive(drive)
    return [(tick, -turn) for tick, turn in drive]
