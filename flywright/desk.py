"""A desk: lines of words that play a show, and their answers."""

from flywright.errors import Busy, Moving, NoCue, NotStopped, Stopped, TooLong, TooNear
from flywright.rows import read_number
from flywright.show import Show
from flywright.steps import is_whole

MOST_GO = 60
NO_LINE = "no line"


def played(stage, sheet, lines):
    """The answers to lines, one behind the other, on a new show."""
    show = Show(stage, sheet)
    return [answered(show, line) for line in lines]


def answered(show, line):
    """The answer to a line: a list of lines."""
    if not isinstance(line, str) or "\n" in line:
        return [NO_LINE]
    try:
        return done_by(show, line.split(" "))
    except Busy as busy:
        return [f"busy {busy.name}"]
    except TooNear as near:
        return [f"too near {near.one} {near.other} {near.tick}"]
    except TooLong:
        return ["too long"]
    except Stopped:
        return ["stopped"]
    except NotStopped:
        return ["not stopped"]
    except Moving:
        return ["moving"]
    except NoCue:
        return ["no cue"]


def done_by(show, words):
    """What the words of a line do with a show, and the answer where the show doesn't refuse it."""
    match words:
        case ["go", many]:
            return gone_by(show, read_number(many))
        case ["press", cue] if cue:
            show.press(cue)
            return ["pressed"]
        case ["stop"]:
            show.stop()
            return ["done"]
        case ["on"]:
            show.go_on()
            return ["done"]
        case ["back"]:
            show.back()
            return ["done"]
        case _:
            return told_by(show, words)


def told_by(show, words):
    """The answer to a line that only asks."""
    places = {machine.name: place for machine, place in zip(show.stage.machines(), show.places())}
    match words:
        case ["where", name] if name in places:
            return [str(places[name])]
        case ["all"]:
            return [f"{machine} {place}" for machine, place in places.items()]
        case ["still"]:
            return ["yes" if show.is_still() else "no"]
        case _:
            return [NO_LINE]


def gone_by(show, many):
    """Lets so many ticks go by."""
    if not is_whole(many, 1, MOST_GO):
        return [NO_LINE]
    for each in range(many):
        show.go()
    return [f"tick {show.clock()}"]
