"""Equal steps: the field goes one step ahead each `every` ticks, without end."""

from math import gcd

from poleslips.checks import check_beginning, check_number_from, check_pull, check_wheel
from poleslips.motion import fore_part


def check_steps(wheel, pull, every):
    """Raise the error of the first of the three arguments that is wrong."""
    check_wheel(wheel)
    check_pull(pull)
    check_number_from(every, 1)


def first_slip(wheel, pull, every, place):
    """The least index of a step that is a slip, None if none ever is."""
    check_steps(wheel, pull, every)
    check_beginning(wheel, place)
    fore, step, way = fore_part(wheel), wheel[1], pull * every
    # The rest behind the step with the index; what follows goes on to later steps in leaps.
    index, rest = 0, step - place
    if rest > fore:
        return 0
    if way >= step:
        return None
    if rest < -way:
        # The field comes nearer from behind while the wheel comes back to it, so both ways add up.
        index = (step - rest - 1) // (way + step)
        rest += index * (way + step)
    if rest <= way:
        # The wheel stands at its aim ahead of the next step.
        index += 1
        rest = step
    return index + (fore - rest) // (step - way) + 1


def least_every(wheel, pull):
    """The least number of ticks between two steps with which none but the first is ever a slip, None if none is."""
    check_wheel(wheel)
    check_pull(pull)
    if pull == 0:
        return None
    # A wheel that goes less than a step from one to the next falls behind without end.
    return (wheel[1] + pull - 1) // pull


def drawn_in(rest, way):
    """The rest behind pulls that go this way together."""
    if abs(rest) <= way:
        return 0
    if rest > 0:
        return rest - way
    return rest + way


def losses_of(wheel, way, rest):
    """The rounds lost behind 0, 1, 2 and so on steps until a rest comes again, and the steps ahead of its first time.

    A rest is counted ahead of its step, and the list ends with the step behind which it comes again.
    """
    seen = {}
    losses = [0]
    while rest not in seen:
        seen[rest] = len(seen)
        rest += wheel[1]
        lost = losses[-1]
        if rest > fore_part(wheel):
            rest -= wheel[0]
            lost += 1
        losses.append(lost)
        rest = drawn_in(rest, way)
    return losses, seen[rest]


def lost_behind(wheel, pull, every, place, many):
    """The rounds lost behind the first many steps."""
    check_steps(wheel, pull, every)
    check_beginning(wheel, place)
    check_number_from(many, 0)
    losses, first = losses_of(wheel, pull * every, -place)
    last = len(losses) - 1
    if many <= last:
        return losses[many]
    turns, more = divmod(many - first, last - first)
    return losses[first + more] + turns * (losses[last] - losses[first])


def pace(wheel, pull, every):
    """The rounds lost in the long run, and the steps in which so many are lost, in lowest terms."""
    check_steps(wheel, pull, every)
    losses, first = losses_of(wheel, pull * every, 0)
    rounds, steps = losses[-1] - losses[first], len(losses) - 1 - first
    common = gcd(rounds, steps)
    return rounds // common, steps // common
