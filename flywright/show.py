"""A show: cues are pressed while the ticks go by."""

from flywright.errors import BadSheet, Moving, NotStopped, Stopped, TooLong, TooNear
from flywright.plans import Back, Ways
from flywright.safety import need_free, stopped
from flywright.sheets import Sheet

MOST_BACK = 1000


class Show:
    """A stage, a sheet that fits it, and what its machines did so far and are about to do."""

    def __init__(self, stage, sheet):
        if not isinstance(sheet, Sheet):
            raise BadSheet("a show plays a sheet alone")
        sheet.fits(stage)
        self.stage = stage
        self.sheet = sheet
        self.past = [[machine.place for machine in stage.machines()]]
        # The way that is gone, and the show's tick that it has as 0.
        self.way = Ways(stage, self.past[0])
        self.begun = 0
        # Behind a stop: the places from the stop's tick on, and that tick.
        self.halt = None
        self.halted = 0

    def clock(self):
        """How many ticks went by."""
        return len(self.past) - 1

    def places(self):
        """Where the machines are, in order."""
        return list(self.past[-1])

    def book(self):
        """The places at each tick so far."""
        return [list(places) for places in self.past]

    def is_still(self):
        """Whether all rest and nothing is to come by itself."""
        if self.halt is None:
            return self.way_tick() >= self.way.end()
        return self.clock() - self.halted >= len(self.halt) - 1

    def go(self):
        """Lets a tick go by."""
        if self.halt is None:
            self.past.append(self.way.at(self.way_tick() + 1))
        elif self.is_still():
            self.past.append(self.places())
        else:
            self.past.append(self.halt[self.clock() - self.halted + 1])

    def press(self, cue):
        """Begins a cue at this tick."""
        self.sheet.need_cue(cue)
        self.need_running()
        if self.is_still():
            self.take_way(Ways(self.stage, self.places()).adds(self.sheet, cue, 0), self.clock())
        else:
            self.take_way(self.way.adds(self.sheet, cue, self.way_tick()), self.begun)

    def stop(self):
        """Stops all machines; none begins a move behind this tick."""
        self.need_running()
        self.halt = stopped(self.way, self.way_tick())
        self.halted = self.clock()

    def go_on(self):
        """Takes up at this tick what a stop broke off."""
        if self.halt is None:
            raise NotStopped("nothing is stopped")
        if not self.is_still():
            raise Moving("machines still move behind the stop")
        self.take_way(self.way.goes_on(self.halted - self.begun), self.clock())
        self.halt = None

    def back(self):
        """Lets all ticks so far go by once more, from the last one to the first."""
        self.need_running()
        if not self.is_still():
            raise Moving("something moves or is to come")
        if self.clock() > MOST_BACK:
            raise TooLong(f"more than {MOST_BACK} ticks to go back")
        way = Back(self.stage, self.past)
        self.need_let_by(way, self.clock())
        self.past.extend([way.at(tick) for tick in range(1, way.end() + 1)])
        self.way = Ways(self.stage, self.places())
        self.begun = self.clock()

    def way_tick(self):
        """This tick as the way counts it."""
        return self.clock() - self.begun

    def need_running(self):
        """Refuses what can't be done behind a stop."""
        if self.halt is not None:
            raise Stopped("the show is stopped")

    def take_way(self, way, begun):
        """Goes on by a way that has the show's tick begun as 0; refuses one that isn't let by from this tick on."""
        self.need_let_by(way, begun)
        self.way = way
        self.begun = begun

    def need_let_by(self, way, begun):
        """Refuses such a way that isn't let by from this tick on, with the show's ticks."""
        try:
            need_free(way, self.clock() - begun)
        except TooNear as near:
            raise TooNear(begun + near.tick, near.one, near.other) from None
