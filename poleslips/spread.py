"""Where a wheel can be if each pull is any one from low to high. Nothing is checked here: callers have done so."""

from poleslips.motion import aim_at, back_part, fore_part


def as_stretches(spans):
    """The integers of all spans as a list of stretches, ascending and as few as possible."""
    stretches = []
    for least, greatest in sorted(spans):
        if stretches and least <= stretches[-1][1] + 1:
            first, last = stretches[-1]
            stretches[-1] = (first, max(last, greatest))
        else:
            stretches.append((least, greatest))
    return stretches


def aims_of_span(wheel, field, span):
    """The aims of all places of a span, ascending."""
    least, greatest = span
    return list(range(aim_at(wheel, field, least), aim_at(wheel, field, greatest) + 1, wheel[0]))


def aims_of_stretches(wheel, field, stretches):
    """The aims of all places of the stretches, ascending."""
    return sorted({aim for span in stretches for aim in aims_of_span(wheel, field, span)})


def drawn(aim, span, short, long):
    """The span of all places behind ways from short to long, if all places of the span have this aim."""
    least, greatest = span
    # The hindmost place comes from the end that is hindmost: ahead of the aim by the longest way.
    if least < aim:
        least = min(aim, least + short)
    else:
        least = max(aim, least - long)
    if greatest > aim:
        greatest = max(aim, greatest - short)
    else:
        greatest = min(aim, greatest + long)
    return least, greatest


def spread(wheel, field, stretches, short, long):
    """The stretches of all places behind ways from short to long in a field that stays."""
    fore, back = fore_part(wheel), back_part(wheel)
    spans = []
    for span in stretches:
        for aim in aims_of_span(wheel, field, span):
            part = max(span[0], aim - fore), min(span[1], aim + back)
            spans.append(drawn(aim, part, short, long))
    return as_stretches(spans)
