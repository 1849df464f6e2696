"""What is let by: ways on which no two machines come too near, also behind a stop at any tick."""

from flywright.brakes import places_behind
from flywright.errors import BadNumber, TooNear
from flywright.steps import is_whole


def need_tick(tick):
    """Refuses what is no tick from 0 on."""
    # Ticks have no greatest one, so a thing is held against itself.
    if not is_whole(tick, 0, tick):
        raise BadNumber("a tick must be a whole number from 0 on")


def stopped(way, tick):
    """The places at each tick behind a stop, from the stop's own on till all rest."""
    need_tick(tick)
    return places_behind(way, tick)


def need_free(way, now=0):
    """Refuses a way on which machines come too near from a tick on, by itself or behind a stop."""
    need_tick(now)
    need_way_free(way, now)
    for tick in range(now, way.end() + 1):
        need_stop_free(way, tick)


def need_way_free(way, now):
    """Refuses a way that isn't free by itself; it tells the first tick in which it isn't."""
    # At now itself only the places count, so that there each machine is held against where it is.
    ahead = way.at(now)
    for tick in range(now, max(now, way.end()) + 1):
        places = way.at(tick)
        near = way.stage.first_swept(ahead, places)
        if near is not None:
            raise TooNear(tick, near[0], near[1])
        ahead = places


def need_stop_free(way, tick):
    """Refuses a way where a stop at a tick leads to what is too near; it tells the tick of the stop."""
    rows = places_behind(way, tick)
    for ahead, places in zip(rows, rows[1:]):
        near = way.stage.first_swept(ahead, places)
        if near is not None:
            raise TooNear(tick, near[0], near[1])
