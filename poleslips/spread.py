"""Where a wheel can be if each pull is any one from low to high. Nothing is checked here: callers have done so."""

from poleslips.motion import aim_at, back_part, fore_part


def as_stretches(spans):
    """The integers of all spans as a list of stretches, ascending and as few as possible."""
    stretches = []
    for least, greatest in sorted(spans):
        if stretches and least <= stretches[-1][1] + 1:
            first, last = stretches[-1]
            stretches[-1] = (first, max(last, greatest))
        else:
            stretches.append((least, greatest))
    return stretches


def aims_of_span(wheel, field, span):
    """The aims of all places of a span, ascending."""
    least, greatest = span
    return list(range(aim_at(wheel, field, least), aim_at(wheel, field, greatest) + 1, wheel[0]))


def aims_of_stretches(wheel, field, stretches):
    """The aims of all places of the stretches, ascending."""
    return sorted({aim for span in stretches for aim in aims_of_span(wheel, field, span)})


def drawn(aim, span, short, long):
    """The span of all places behind ways from short to long, if all places of the span have this aim."""
    least, greatest = span
    # The hindmost place comes from the end that is hindmost: ahead of the aim by the longest way.
    if least < aim:
        least = min(aim, least + short)
    else:
        least = max(aim, least - long)
    if greatest > aim:
        greatest = max(aim, greatest - short)
    else:
        greatest = min(aim, greatest + long)
    return least, greatest


def parts_by_aim(wheel, field, stretches):
    """The tuples (aim, span) of the parts of stretches that have the same aim each."""
    fore, back = fore_part(wheel), back_part(wheel)
    parts = []
    for span in stretches:
        for aim in aims_of_span(wheel, field, span):
            parts.append((aim, (max(span[0], aim - fore), min(span[1], aim + back))))
    return parts


def spread(wheel, field, stretches, short, long):
    """The stretches of all places behind ways from short to long in a field that stays."""
    parts = parts_by_aim(wheel, field, stretches)
    return as_stretches([drawn(aim, span, short, long) for aim, span in parts])


def drawn_back(wheel, aim, span, short, long):
    """The span of all places that ways from short to long bring into a span of places with this aim.

    Its least place is above its greatest one if there are none.
    """
    least, greatest = span
    # A place at its aim comes from both sides, any other one from its own side alone.
    if least > aim:
        least = least + short
    else:
        least = max(least - long, aim - fore_part(wheel))
    if greatest < aim:
        greatest = greatest - short
    else:
        greatest = min(greatest + long, aim + back_part(wheel))
    return least, greatest


def spread_back(wheel, field, stretches, short, long):
    """The stretches of all places that some ways from short to long bring into the stretches."""
    parts = parts_by_aim(wheel, field, stretches)
    spans = [drawn_back(wheel, aim, span, short, long) for aim, span in parts]
    return as_stretches([span for span in spans if span[0] <= span[1]])


def shared(one, other):
    """The stretches of the integers that two lists of stretches have in common."""
    found = []
    first = second = 0
    while first < len(one) and second < len(other):
        least = max(one[first][0], other[second][0])
        greatest = min(one[first][1], other[second][1])
        if least <= greatest:
            found.append((least, greatest))
        # The stretch that ends first has nothing in common with what follows in the other list.
        if one[first][1] < other[second][1]:
            first += 1
        else:
            second += 1
    return found
