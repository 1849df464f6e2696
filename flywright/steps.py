"""The steps of a move, one a tick, and those behind a stop."""

from flywright.errors import BadNumber, TooLong

MOST_STEPS = 200
MOST_PACE = 10 ** 9
MOST_DISTANCE = 10 ** 12


def is_whole(thing, least, most):
    """Whether a thing, which may be anything, is an int from the least to the most."""
    # True and False are ints to Python, but no numbers here.
    if not isinstance(thing, int) or isinstance(thing, bool):
        return False
    return least <= thing <= most


def need_whole(thing, least, most, what):
    """Refuses a thing that is no int from the least to the most."""
    if not is_whole(thing, least, most):
        raise BadNumber(f"the {what} must be a whole number from {least} to {most}")


def need_drive(pace, gain):
    """Refuses a pace and a gain that no machine has."""
    need_whole(pace, 1, MOST_PACE, "pace")
    need_whole(gain, 1, MOST_PACE, "gain")


def steps_of(distance, pace, gain):
    """The fewest steps that sum to the distance; of such rows the greatest, from the first step on."""
    need_whole(distance, 0, MOST_DISTANCE, "distance")
    need_drive(pace, gain)
    many = fewest_steps(distance, pace, gain)
    steps = []
    step = 0
    left = distance
    for behind in range(many - 1, -1, -1):
        step = greatest_step(step, behind, left, pace, gain)
        left -= step
        steps.append(step)
    return steps


def reach(many, pace, gain):
    """The greatest distance of so many steps."""
    need_whole(many, 0, MOST_STEPS, "count of steps")
    need_drive(pace, gain)
    return sum(added_reach(each, pace, gain) for each in range(many + 1))


def braked(step, gain):
    """The steps with which a machine goes on when it is stopped behind a step."""
    need_whole(step, 0, MOST_PACE, "step")
    need_whole(gain, 1, MOST_PACE, "gain")
    # Asked ahead of the list, which could have 10 ** 9 steps.
    if step > gain * (MOST_STEPS + 1):
        raise TooLong(f"more than {MOST_STEPS} steps behind a stop")
    return list(range(step - gain, 0, -gain))


def added_reach(many, pace, gain):
    """By how much the reach of so many steps is more than that of one fewer; 0 of none.

    The greatest row rises by the gain from both ends, so that one more step is one more in its middle.
    """
    return min(pace, gain * ((many + 1) // 2))


def fewest_steps(distance, pace, gain):
    """How many steps a distance takes; each distance above the reach of one fewer can be gone by them."""
    reached = 0
    for many in range(MOST_STEPS + 1):
        reached += added_reach(many, pace, gain)
        if distance <= reached:
            return many
    raise TooLong(f"more than {MOST_STEPS} steps to go {distance}")


def greatest_step(ahead, behind, left, pace, gain):
    """The greatest step next to the one ahead, with which so many behind it can still sum to what is left.

    The steps behind sum to the least where each falls by the gain, so it and they may come to no more than what
    is left. That none falls below 1 needn't be asked: a row that would could do with one step fewer, and then its
    sum isn't above what is left.
    """
    fallen = gain * (behind * (behind + 1) // 2)
    return min(pace, ahead + gain, (left + fallen) // (behind + 1))
