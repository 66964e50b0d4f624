"""Texts of wheels, drives, loads lists and stretches."""

from poleslips.checks import MOST_ITEMS, MOST_LOADS
from poleslips.errors import InvalidSyntax
from poleslips.wheels import is_wheel

MOST_DIGITS = 30


def format_wheel(wheel):
    """The text of a wheel."""
    return f"{wheel[0]}/{wheel[1]}"


def format_drive(drive):
    """The text of a drive."""
    return " ".join([f"{tick}{turn:+d}" for tick, turn in drive])


def format_load(load):
    """The text of one tuple of a loads list."""
    pull, ticks = load
    return f"{pull}" if ticks == 1 else f"{pull}*{ticks}"


def format_loads(loads):
    """The text of a loads list."""
    return " ".join([format_load(load) for load in loads])


def format_stretch(stretch):
    """The text of one stretch."""
    least, greatest = stretch
    return f"{least}" if least == greatest else f"{least}..{greatest}"


def format_stretches(stretches):
    """The text of a list of stretches."""
    return " ".join([format_stretch(stretch) for stretch in stretches])


def natural_in(word):
    """The number from 0 on with this text, None if there is none."""
    if not word.isascii() or not word.isdigit() or len(word) > MOST_DIGITS:
        return None
    if word.startswith("0") and word != "0":
        return None
    return int(word)


def number_in(word):
    """The number with this text, None if there is none."""
    if not word.startswith("-"):
        return natural_in(word)
    number = natural_in(word[1:])
    if number is None or number == 0:
        return None
    return -number


def words_of(text, empty):
    """The words of a text; the empty string is these words."""
    if not isinstance(text, str):
        raise InvalidSyntax(None)
    return text.split(" ") if text else empty


def parse_wheel(text):
    """The wheel with a text."""
    words = words_of(text, [""])
    whole, _, step = words[0].partition("/")
    wheel = natural_in(whole), natural_in(step)
    if not is_wheel(wheel):
        raise InvalidSyntax(0)
    if len(words) > 1:
        raise InvalidSyntax(1)
    return wheel


def item_in(word):
    """The item of a drive with this text, None if there is none."""
    sign = "+" if "+" in word else "-"
    before, _, behind = word.partition(sign)
    tick, turn = natural_in(before), natural_in(behind)
    if tick is None or turn is None or turn == 0:
        return None
    return tick, (turn if sign == "+" else -turn)


def parse_drive(text):
    """The drive with a text."""
    drive = []
    least_tick = 0
    for index, word in enumerate(words_of(text, [])):
        item = item_in(word)
        if item is None or item[0] < least_tick or index == MOST_ITEMS:
            raise InvalidSyntax(index)
        drive.append(item)
        least_tick = item[0] + 1
    return drive


def load_in(word):
    """The tuple of a loads list with this text, None if there is none."""
    before, star, behind = word.partition("*")
    pull = natural_in(before)
    ticks = natural_in(behind) if star else 1
    # One tick has no star.
    if pull is None or ticks is None or (star and ticks < 2):
        return None
    return pull, ticks


def parse_loads(text):
    """The loads list with a text."""
    loads = []
    for index, word in enumerate(words_of(text, [])):
        load = load_in(word)
        if load is None or index == MOST_LOADS:
            raise InvalidSyntax(index)
        loads.append(load)
    return loads
