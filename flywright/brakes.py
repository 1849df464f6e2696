"""Where machines go behind a stop."""

from flywright.steps import braked


def places_behind(way, tick):
    """The places at each tick from that of a stop on, itself first, till all rest: a list of lists."""
    paths = []
    for at, (machine, place) in enumerate(zip(way.stage.machines(), way.at(tick))):
        paths.append(braked_path(place, way.step_of(at, tick), machine.gain))
    longest = max([len(path) for path in paths])
    # Who brakes at once waits where it stands for who brakes long.
    return [[path[min(each, len(path) - 1)] for path in paths] for each in range(longest)]


def braked_path(place, step, gain):
    """The places of one machine that came to a place by a step, from there till it rests."""
    path = [place]
    for each in braked(abs(step), gain):
        path.append(path[-1] + (each if step > 0 else -each))
    return path
