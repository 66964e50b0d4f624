"""Slack: how far each item of a drive ahead may be off, if the pull of each tick is any integer from low on.

What decides is the slowest wheel. At an item the field is as far ahead of it as the turns of some items up to this
one make together, less what the wheel goes from the first to the last of these: those items with which it is most.
"""

from poleslips.checks import check_drive, check_number_from, check_pull, check_wheel, is_number, is_number_from, is_pair
from poleslips.drives import summed
from poleslips.errors import Impossible
from poleslips.motion import fore_part
from poleslips.plays import is_kept


def check_slack(wheel, low, drive):
    """Raise the error of the first of the three arguments that is wrong."""
    check_wheel(wheel)
    check_pull(low)
    check_drive(drive, True)


def rows_over(wheel, drive):
    """The tuples (first, last, over) of all rows of items that make more than fore together, and by how much."""
    rows = []
    for first in range(len(drive)):
        over = -fore_part(wheel)
        for last in range(first, len(drive)):
            over += drive[last][1] * wheel[1]
            if over > 0:
                rows.append((first, last, over))
    return rows


def least_change(low, drive, row):
    """The least change of the ticks with which the wheel has a slip behind the items of a row."""
    first, last, over = row
    # The wheel may go less than what the turns make over fore.
    far = drive[last][0] - drive[first][0] - (over - 1) // low
    return max(0, (far + 1) // 2)


def weakest(wheel, low, drive):
    """The least change of the ticks with which the wheel has a slip, and the row of items of this slip.

    None if no change is enough.
    """
    rows = rows_over(wheel, drive)
    if not rows:
        return None
    if low == 0:
        return 0, rows[0]
    return min([(least_change(low, drive, row), row) for row in rows])


def slack(wheel, low, drive):
    """The greatest change of the ticks with which the wheel surely has no slip, None if no change is too great."""
    check_slack(wheel, low, drive)
    found = weakest(wheel, low, drive)
    if found is None:
        return None
    if found[0] == 0:
        raise Impossible("the drive itself has a slip")
    return found[0] - 1


def brought_together(drive, first, last, by):
    """The drive with the first item of a row so much later, the last one so much earlier, and all others between.

    The change is the least one with which the row has a slip, so that the first item does not come behind the last.
    """
    begin = drive[first][0] + by
    end = max(drive[last][0] - by, begin)
    row = [(min(max(tick, begin), end), turn) for tick, turn in drive[first:last + 1]]
    return drive[:first] + row + drive[last + 1:]


def late_drive(wheel, low, drive, by):
    """A late list, changed by at most so much, with which a wheel with the pull low has a slip; None if none is."""
    check_slack(wheel, low, drive)
    check_number_from(by, 0)
    found = weakest(wheel, low, drive)
    if found is None or found[0] > by:
        return None
    first, last, _ = found[1]
    return brought_together(drive, first, last, found[0])


def is_late(drive, by, value):
    """Whether any value is a late list of the drive that is changed by at most so much."""
    if not isinstance(value, list) or len(value) != len(drive):
        return False
    before = 0
    for (tick, turn), item in zip(drive, value):
        if not is_pair(item) or not is_number_from(item[0], before) or not is_number(item[1]):
            return False
        if item[1] != turn or abs(item[0] - tick) > by:
            return False
        before = item[0]
    return True


def shows_late(wheel, low, drive, by, value):
    """Whether any value is a late list that `late_drive` may return."""
    check_slack(wheel, low, drive)
    check_number_from(by, 0)
    return is_late(drive, by, value) and not is_kept(wheel, low, 0, summed(value))
