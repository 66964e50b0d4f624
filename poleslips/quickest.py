"""The quickest drive that surely loses nothing, if the pull of each tick is any integer from low on.

What decides is the hindmost wheel, which always has the pull low, and a field that is as far ahead of it as can be.
The height of this wheel is its place plus fore: as many whole steps as it has, the field can be ahead.
"""

from poleslips.checks import MOST_ITEMS, check_beginning, check_number_between, check_number_from, check_pull_from
from poleslips.checks import check_tick, check_wheel
from poleslips.drives import summed
from poleslips.motion import fore_part
from poleslips.plays import stands_from


def check_quickest(wheel, low, place):
    """Raise the error of the first of the three arguments that is wrong."""
    check_wheel(wheel)
    check_pull_from(low, 1)
    check_beginning(wheel, place)


def first_multiple(factor, size, least, greatest):
    """The least number whose product with the factor has a remainder by size from least to greatest, None if none has.

    The factor is from 0 to size - 1, least from 1 on, greatest not below least and below size.
    """
    if 2 * factor > size:
        # The same question mirrored, so that each round of it halves the size.
        factor, least, greatest = size - factor, size - greatest, size - least
    if factor == 0:
        return None
    many = (least + factor - 1) // factor
    if many * factor <= greatest:
        return many
    # Between least and greatest is no multiple, so whole sizes are added until one lies between.
    sizes = first_multiple(-size % factor, factor, least % factor, greatest % factor)
    if sizes is None:
        return None
    return (least + sizes * size + factor - 1) // factor


def free_ticks(wheel, low, height):
    """How many ticks the wheel goes the whole pull ahead of the first one in which it may reach the field.

    None if it always goes the whole pull.
    """
    step = wheel[1]
    # A height with at most this much above its whole steps has the field at least low ahead.
    most, over = fore_part(wheel) - low, height % step
    if over > most:
        return 0
    if most >= step - 1:
        return None
    return first_multiple(low % step, step, most + 1 - over, step - 1 - over)


def at_field(wheel, height):
    """The height behind a tick in which the wheel reaches the field."""
    return height - height % wheel[1] + fore_part(wheel)


def climb_of(wheel, low, place):
    """How the height grows: a tuple (height, free, again, cycle, gain).

    From the height on it grows by low in each of the free ticks; one more tick brings it to the height `again`. From
    there on it grows by the gain in each cycle of ticks: by low in each of them, but for the last one. Free is None
    if the height grows by low for ever, the cycle is None if it does from `again` on.
    """
    height = place + fore_part(wheel)
    free = free_ticks(wheel, low, height)
    if free is None:
        return height, None, None, None, None
    again = at_field(wheel, height + low * free)
    more = free_ticks(wheel, low, again)
    if more is None:
        return height, free, again, None, None
    # A wheel that has reached the field has the same height above its whole steps each time.
    return height, free, again, more + 1, at_field(wheel, again + low * more) - again


def height_at(climb, low, tick):
    """The height at a tick."""
    height, free, again, cycle, gain = climb
    if free is None or tick <= free:
        return height + low * tick
    tick -= free + 1
    if cycle is None:
        return again + low * tick
    cycles, more = divmod(tick, cycle)
    return again + cycles * gain + low * more


def tick_with(climb, low, height):
    """The least tick at which the wheel has at least this height."""
    # The height grows in each tick, and it is never below 0.
    least, most = 0, height
    while least < most:
        middle = (least + most) // 2
        if height_at(climb, low, middle) >= height:
            most = middle
        else:
            least = middle + 1
    return least


def steps_by(wheel, low, place, tick):
    """How many steps ahead the field of a sure drive can be at a tick."""
    check_quickest(wheel, low, place)
    check_tick(tick)
    return height_at(climb_of(wheel, low, place), low, tick) // wheel[1]


def quickest_tick(wheel, low, place, index):
    """The least tick at which the field of a sure drive can be index + 1 steps ahead."""
    check_quickest(wheel, low, place)
    check_number_from(index, 0)
    return tick_with(climb_of(wheel, low, place), low, (index + 1) * wheel[1])


def steps_drive(wheel, low, place, steps):
    """The drive of so many steps, each one as early as it surely can be."""
    climb = climb_of(wheel, low, place)
    return summed([(tick_with(climb, low, (index + 1) * wheel[1]), 1) for index in range(steps)])


def quickest_drive(wheel, low, place, steps):
    """The drive of so many steps, each one at its quickest tick."""
    check_quickest(wheel, low, place)
    check_number_between(steps, 0, MOST_ITEMS)
    return steps_drive(wheel, low, place, steps)


def settled_tick(wheel, low, place, steps):
    """The least tick, not ahead of the last item of the quickest drive, at which the wheel surely stands."""
    check_quickest(wheel, low, place)
    check_number_between(steps, 0, MOST_ITEMS)
    # With greater pulls a wheel stands no later.
    return stands_from(wheel, low, place, steps_drive(wheel, low, place, steps))
