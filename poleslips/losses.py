"""What can be lost and what is surely lost, if the pull of each tick is any integer from low to high."""

from poleslips.checks import check_number_from, check_ways
from poleslips.errors import InvalidNumber
from poleslips.motion import back_part, fore_part
from poleslips.spread import drawn


def kept_spans(wheel, low, high, start, drive):
    """For each item a tuple (come, kept) of stretches of places, until no way is left.

    Come are those of the ways without a slip ahead of the item, kept those of them without one at it, None if there
    are none.
    """
    spans = []
    now = field = 0
    kept = start
    for tick, turn in drive:
        come = drawn(field, kept, low * (tick - now), high * (tick - now))
        now = tick
        field += turn * wheel[1]
        kept = max(come[0], field - fore_part(wheel)), min(come[1], field + back_part(wheel))
        if kept[0] > kept[1]:
            spans.append((come, None))
            break
        spans.append((come, kept))
    return spans


def risk_index(spans):
    """The index of the first item at which some way has its first slip, None if there is none."""
    for index, (come, kept) in enumerate(spans):
        if come != kept:
            return index
    return None


def loss_index(spans):
    """The index of the item behind which no way without a slip is left, None if there is none."""
    for index, (_, kept) in enumerate(spans):
        if kept is None:
            return index
    return None


def is_sure(wheel, low, high, start, drive):
    """Whether no way has a slip."""
    check_ways(wheel, low, high, start, drive)
    return risk_index(kept_spans(wheel, low, high, start, drive)) is None


def can_keep(wheel, low, high, start, drive):
    """Whether some way has no slip."""
    check_ways(wheel, low, high, start, drive)
    return loss_index(kept_spans(wheel, low, high, start, drive)) is None


def first_risk(wheel, low, high, start, drive):
    """The least index of an item that is the first slip of some way, None if no way has one."""
    check_ways(wheel, low, high, start, drive)
    return risk_index(kept_spans(wheel, low, high, start, drive))


def first_loss(wheel, low, high, start, drive):
    """The least index of an item up to which every way has a slip, None if there is none."""
    check_ways(wheel, low, high, start, drive)
    return loss_index(kept_spans(wheel, low, high, start, drive))


def kept_span(wheel, low, high, start, drive, index):
    """The stretch of the places at an item of all ways without a slip up to it, None if there is no such way."""
    check_ways(wheel, low, high, start, drive)
    check_number_from(index, 0)
    if index >= len(drive):
        raise InvalidNumber("no item of the drive has this index")
    spans = kept_spans(wheel, low, high, start, drive)
    if index >= len(spans):
        return None
    return spans[index][1]
