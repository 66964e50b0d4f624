"""How ways with sightings are found, layer by layer. Nothing is checked here: callers have done so.

A layer is a tuple (tick, field, stretches): the field behind the item of the tick, and the places at the tick of all
ways that have the sightings up to it.
"""

from poleslips.motion import aim_at
from poleslips.spread import drawn_back, shared, spread, spread_back


def last_tick(items):
    """The tick of the last item of a drive or of the last sighting, 0 if there is none."""
    return items[-1][0] if items else 0


def layers_of(wheel, low, high, start, drive, sightings, ticks):
    """The layers of tick 0, of some ticks, and of each item and sighting not behind the last one of these."""
    turns = dict(drive)
    seen = {tick: (least, greatest) for tick, least, greatest in sightings}
    layers = []
    now = field = 0
    stretches = [start]
    for tick in sorted(set([0] + ticks + list(turns) + list(seen))):
        if tick > max(ticks):
            break
        stretches = spread(wheel, field, stretches, low * (tick - now), high * (tick - now))
        if tick in seen:
            stretches = shared(stretches, [seen[tick]])
        now = tick
        field += turns.get(tick, 0) * wheel[1]
        layers.append((tick, field, stretches))
    return layers


def narrowed(wheel, low, high, layers):
    """The layers with the places of those ways alone that have the sightings of all layers."""
    tick, field, stretches = layers[-1]
    found = [(tick, field, stretches)]
    for at, ahead, before in reversed(layers[:-1]):
        stretches = shared(before, spread_back(wheel, ahead, stretches, low * (tick - at), high * (tick - at)))
        found.append((at, ahead, stretches))
        tick = at
    return found[::-1]


def loads_over(way, ticks):
    """Loads whose pulls add up to the way in so many ticks, all of them as equal as can be."""
    pull, more = divmod(way, ticks)
    if more == 0:
        return [(pull, ticks)]
    return [(pull + 1, more), (pull, ticks - more)]


def paper_along(wheel, low, high, layers):
    """A paper of a way through all layers, None if there is none."""
    tick, _, stretches = layers[-1]
    if not stretches:
        return None
    place = stretches[0][0]
    loads = []
    for at, field, before in reversed(layers[:-1]):
        short, long = low * (tick - at), high * (tick - at)
        sources = drawn_back(wheel, aim_at(wheel, field, place), (place, place), short, long)
        source = shared(before, [sources])[0][0]
        # A wheel that reaches its aim may have been pulled further than it went.
        loads = loads_over(max(short, abs(place - source)), tick - at) + loads
        place, tick = source, at
    return place, loads


def paper_with(wheel, low, high, start, drive, sightings, last):
    """A paper, for the last tick, of a way that has all sightings up to it, None if there is none."""
    return paper_along(wheel, low, high, layers_of(wheel, low, high, start, drive, sightings, [last]))
