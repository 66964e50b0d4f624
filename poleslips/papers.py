"""Papers: a beginning place and a loads list that show what some way does."""

from poleslips.checks import check_beginning, check_drive, check_loads, check_place, check_tick, check_ways
from poleslips.checks import check_wheel
from poleslips.loading import is_paper, loaded_play, spots_at
from poleslips.losses import kept_spans, risk_index
from poleslips.motion import back_part, fore_part
from poleslips.trails import last_tick, paper_with


def play_loads(wheel, loads, place, drive):
    """For each item its tick, the place at this tick and the rounds lost at it, with these loads."""
    check_wheel(wheel)
    check_loads(loads)
    check_beginning(wheel, place)
    check_drive(drive)
    return loaded_play(wheel, loads, place, drive)


def slip_paper(wheel, low, high, start, drive):
    """A paper of a way with a slip, None if there is none."""
    check_ways(wheel, low, high, start, drive)
    spans = kept_spans(wheel, low, high, start, drive)
    index = risk_index(spans)
    if index is None:
        return None
    come, kept = spans[index]
    # One of the two ends of the places that come to the first slip is not kept there.
    place = come[1] if kept is not None and kept[0] == come[0] else come[0]
    return paper_with(wheel, low, high, start, drive, [(drive[index][0], place, place)], last_tick(drive))


def keep_paper(wheel, low, high, start, drive):
    """A paper of a way without a slip, None if there is none."""
    check_ways(wheel, low, high, start, drive)
    fore, back = fore_part(wheel), back_part(wheel)
    # A wheel is kept as long as its aim is the field itself at each item.
    sightings = []
    field = 0
    for tick, turn in drive:
        field += turn * wheel[1]
        sightings.append((tick, field - fore, field + back))
    return paper_with(wheel, low, high, start, drive, sightings, last_tick(drive))


def place_paper(wheel, low, high, start, drive, tick, place):
    """A paper of a way that has this place at the tick, None if there is none."""
    check_ways(wheel, low, high, start, drive)
    check_tick(tick)
    check_place(place)
    return paper_with(wheel, low, high, start, drive, [(tick, place, place)], tick)


def has_slip(wheel, drive, value):
    """Whether the way of a paper has a slip."""
    place, loads = value
    return any([row[2] != 0 for row in loaded_play(wheel, loads, place, drive)])


def shows_slip(wheel, low, high, start, drive, value):
    """Whether any value is a paper of a way with a slip."""
    check_ways(wheel, low, high, start, drive)
    return is_paper(low, high, start, last_tick(drive), value) and has_slip(wheel, drive, value)


def shows_keep(wheel, low, high, start, drive, value):
    """Whether any value is a paper of a way without a slip."""
    check_ways(wheel, low, high, start, drive)
    return is_paper(low, high, start, last_tick(drive), value) and not has_slip(wheel, drive, value)


def shows_place(wheel, low, high, start, drive, tick, place, value):
    """Whether any value is a paper, for the tick, of a way that has this place at the tick."""
    check_ways(wheel, low, high, start, drive)
    check_tick(tick)
    check_place(place)
    if not is_paper(low, high, start, tick, value):
        return False
    begin, loads = value
    return spots_at(wheel, loads, begin, drive, [tick])[0][2] == place
