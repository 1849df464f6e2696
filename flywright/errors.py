"""The refusals: each kind of them is a class of its own, straight under StageError."""


class StageError(ValueError):
    """Any refusal."""


class BadNumber(StageError):
    """A number that isn't as told, or what is no number at all."""


class BadName(StageError):
    """A name that is none, or that nothing has."""


class BadStage(StageError):
    """Machines, rings and a room that make no stage."""


class BadSheet(StageError):
    """Cues that make no sheet, or a sheet that doesn't fit its stage."""


class TooLong(StageError):
    """More steps or ticks than are let by."""


class Busy(StageError):
    """A move of a machine that has one already."""

    def __init__(self, name):
        super().__init__(f"{name} is busy")
        self.name = name


class TooNear(StageError):
    """Two machines that would come too near to each other in a tick."""

    def __init__(self, tick, one, other):
        super().__init__(f"{one} is too near to {other} in tick {tick}")
        self.tick = tick
        self.one = one
        self.other = other


class Stopped(StageError):
    """Something that can't be done behind a stop."""


class NotStopped(StageError):
    """Something that can be done behind a stop alone."""


class Moving(StageError):
    """Something that can't be done while something moves."""


class NoCue(StageError):
    """A cue that the sheet doesn't have."""


class BadRow(StageError):
    """A row of a text, counted from 1, that can't stand there."""

    def __init__(self, row):
        super().__init__(f"row {row} can't stand there")
        self.row = row
