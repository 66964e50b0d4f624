"""How a wheel follows a field. Nothing is checked here: callers have done so."""


def fore_part(wheel):
    """How far the field can be ahead of the wheel and still be its aim."""
    return wheel[0] // 2


def back_part(wheel):
    """How far the field can be behind the wheel and still be its aim."""
    return (wheel[0] - 1) // 2


def rest_at(wheel, field, place):
    """The way from the place to the aim, below 0 if the aim is behind it."""
    back = back_part(wheel)
    # Counted from -back on, so that of two equally near aims the greater is taken.
    return (field - place + back) % wheel[0] - back


def aim_at(wheel, field, place):
    """The place nearest to the wheel that looks like the field to it."""
    return place + rest_at(wheel, field, place)


def lost_at(wheel, field, place):
    """How many rounds the aim is behind the field."""
    return (field - aim_at(wheel, field, place)) // wheel[0]


def moved(wheel, field, place, pull, ticks):
    """The place behind so many ticks with this pull in a field that stays."""
    rest = rest_at(wheel, field, place)
    # A pull never changes the aim, so all ticks together are one long pull.
    way = pull * ticks
    if abs(rest) <= way:
        return place + rest
    if rest > 0:
        return place + way
    return place - way


def ticks_to_aim(wheel, field, place, pull):
    """How many ticks with this pull bring the wheel to its aim in a field that stays, None if none do."""
    way = abs(rest_at(wheel, field, place))
    if way == 0:
        return 0
    if pull == 0:
        return None
    # The last pull may be a part of one: the pulls are counted rounded up.
    return (way + pull - 1) // pull
