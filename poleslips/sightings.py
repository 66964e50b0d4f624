"""Sightings: what it tells about the ways of a wheel where it was seen."""

from poleslips.checks import MOST_ITEMS, check_tick, check_ways, is_number, is_number_from
from poleslips.errors import InvalidSightings
from poleslips.loading import is_paper, spots_at
from poleslips.trails import last_tick, layers_of, narrowed, paper_with


def is_sighting(value, least_tick):
    """Whether a value is a sighting whose tick is not below the least one."""
    if not isinstance(value, tuple) or len(value) != 3:
        return False
    tick, least, greatest = value
    return is_number_from(tick, least_tick) and is_number(least) and is_number_from(greatest, least)


def check_sightings(sightings):
    """Raise InvalidSightings unless the value is a list of sightings."""
    if not isinstance(sightings, list) or len(sightings) > MOST_ITEMS:
        raise InvalidSightings(None)
    least_tick = 0
    for index, sighting in enumerate(sightings):
        if not is_sighting(sighting, least_tick):
            raise InvalidSightings(index)
        least_tick = sighting[0] + 1


def check_seen(wheel, low, high, start, drive, sightings):
    """Raise the error of the first of the six arguments that is wrong."""
    check_ways(wheel, low, high, start, drive)
    check_sightings(sightings)


def misfit_index(wheel, low, high, start, drive, sightings):
    """The index of the first sighting that no way has with all those ahead of it, None if there is none."""
    for tick, _, stretches in layers_of(wheel, low, high, start, drive, sightings, [last_tick(sightings)]):
        if not stretches:
            # Nothing but a sighting leaves no place.
            return [seen[0] for seen in sightings].index(tick)
    return None


def fits(wheel, low, high, start, drive, sightings):
    """Whether some way has all sightings."""
    check_seen(wheel, low, high, start, drive, sightings)
    return misfit_index(wheel, low, high, start, drive, sightings) is None


def first_misfit(wheel, low, high, start, drive, sightings):
    """The least index of a sighting that no way has with all those ahead of it, None if there is none."""
    check_seen(wheel, low, high, start, drive, sightings)
    return misfit_index(wheel, low, high, start, drive, sightings)


def places_seen(wheel, low, high, start, drive, sightings, tick):
    """The stretches of the places at a tick of all ways that have all sightings, also the later ones."""
    check_seen(wheel, low, high, start, drive, sightings)
    check_tick(tick)
    layers = layers_of(wheel, low, high, start, drive, sightings, [tick, last_tick(sightings)])
    found = {at: stretches for at, _, stretches in narrowed(wheel, low, high, layers)}
    return found[tick]


def sight_paper(wheel, low, high, start, drive, sightings):
    """A paper of a way that has all sightings, None if there is none."""
    check_seen(wheel, low, high, start, drive, sightings)
    return paper_with(wheel, low, high, start, drive, sightings, last_tick(sightings))


def shows_sights(wheel, low, high, start, drive, sightings, value):
    """Whether any value is a paper of a way that has all sightings."""
    check_seen(wheel, low, high, start, drive, sightings)
    if not is_paper(low, high, start, last_tick(sightings), value):
        return False
    place, loads = value
    spots = spots_at(wheel, loads, place, drive, [tick for tick, _, _ in sightings])
    return all([least <= spot[2] <= greatest for spot, (_, least, greatest) in zip(spots, sightings)])
