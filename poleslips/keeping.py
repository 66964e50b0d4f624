"""Pulls that keep: with which pulls, the same one in each tick, a wheel has no slip.

A piece is a tuple (least, greatest, base, slope): with each pull from least to greatest, which has had no slip so
far, the wheel is at base + slope * pull. A piece whose least is above its greatest is empty.
"""

from poleslips.checks import check_beginning, check_drive, check_number_from, check_pull, check_wheel
from poleslips.motion import back_part, fore_part
from poleslips.spread import as_stretches


def check_keeping(wheel, place, drive):
    """Raise the error of the first of the three arguments that is wrong."""
    check_wheel(wheel)
    check_beginning(wheel, place)
    check_drive(drive)


def cut(piece, factor, bound):
    """The part of a piece with the pulls whose product with the factor is at most the bound."""
    least, greatest, base, slope = piece
    if factor > 0:
        greatest = min(greatest, bound // factor)
    elif factor < 0:
        least = max(least, -(bound // -factor))
    elif bound < 0:
        greatest = least - 1
    return least, greatest, base, slope


def moved_pieces(piece, field, ticks):
    """The pieces of a piece behind so many ticks in a field that is the aim of all its places."""
    least, greatest, base, slope = piece
    ahead = field - base
    behind = cut(piece, slope + ticks, ahead - 1)
    beyond = cut(piece, ticks - slope, -ahead - 1)
    there = cut(cut(piece, -slope - ticks, -ahead), slope - ticks, ahead)
    return [
        (behind[0], behind[1], base, slope + ticks),
        (there[0], there[1], field, 0),
        (beyond[0], beyond[1], base, slope - ticks),
    ]


def kept_piece(wheel, piece, field):
    """The part of a piece whose places have the field as their aim."""
    ahead, slope = field - piece[2], piece[3]
    return cut(cut(piece, slope, ahead + back_part(wheel)), -slope, fore_part(wheel) - ahead)


def without_empty(pieces):
    """The pieces that are not empty, ascending; neighbours with the same places are joined."""
    joint = []
    for least, greatest, base, slope in sorted(pieces):
        if least > greatest:
            continue
        if joint and joint[-1][1:] == (least - 1, base, slope):
            joint[-1] = (joint[-1][0], greatest, base, slope)
        else:
            joint.append((least, greatest, base, slope))
    return joint


def keeping_stretches(wheel, place, drive, most):
    """The stretches of the pulls from 0 to most with which the wheel has no slip."""
    pieces = [(0, most, place, 0)]
    now = field = 0
    for tick, turn in drive:
        pieces = without_empty([part for piece in pieces for part in moved_pieces(piece, field, tick - now)])
        now = tick
        field += turn * wheel[1]
        pieces = without_empty([kept_piece(wheel, piece, field) for piece in pieces])
    return as_stretches([piece[:2] for piece in pieces])


def kept_pulls(wheel, place, drive, most):
    """The stretches of the pulls from 0 to most with which the wheel has no slip in the drive."""
    check_keeping(wheel, place, drive)
    check_number_from(most, 0)
    return keeping_stretches(wheel, place, drive, most)


def next_change(wheel, place, drive, pull):
    """The least greater pull with which the wheel has a slip if it has none with this one, or none if it has one."""
    check_keeping(wheel, place, drive)
    check_pull(pull)
    # Half a round is enough for any rest in one tick: all greater pulls do the same.
    most = fore_part(wheel)
    for least, greatest in keeping_stretches(wheel, place, drive, most):
        if pull < least:
            return least
        if pull <= greatest:
            return greatest + 1 if greatest < most else None
    return None
