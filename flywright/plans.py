"""Ways: what all machines do from a tick on."""

from flywright.brakes import places_behind
from flywright.errors import NoCue, TooLong
from flywright.sheets import Sheet
from flywright.turns import Going, called

MOST_TICKS = 400


def row_at(rows, tick):
    """The places at a tick, of rows with those at each tick from 0 on; behind the last one as there."""
    return list(rows[min(tick, len(rows) - 1)])


def step_in(rows, place, tick):
    """The step that the so-manieth machine, counted from 0, took in a tick of such rows."""
    if tick == 0:
        return 0
    return row_at(rows, tick)[place] - row_at(rows, tick - 1)[place]


class Way:
    """The base of all ways; by itself, that of machines at rest where they begin."""

    def __init__(self, stage):
        self.stage = stage

    def end(self):
        """The first tick at which all are at rest and nothing is to come."""
        return 0

    def at(self, tick):
        """The places at a tick."""
        return [machine.place for machine in self.stage.machines()]

    def step_of(self, place, tick):
        """The step that the so-manieth machine, counted from 0, took in a tick; below 0 downwards."""
        return 0 if tick == 0 else self.at(tick)[place] - self.at(tick - 1)[place]


class Ways(Way):
    """What cues make of machines at rest. Adding to a way makes another one, so that none changes."""

    def __init__(self, stage, places):
        Way.__init__(self, stage)
        stage.need_places(places)
        self.rows = [list(places)]
        self.calls = []
        self.told = []

    def end(self):
        return len(self.rows) - 1

    def at(self, tick):
        return row_at(self.rows, tick)

    def step_of(self, place, tick):
        return step_in(self.rows, place, tick)

    def adds(self, sheet, cue, tick):
        """The way with one more cue, which begins at a tick."""
        if not isinstance(sheet, Sheet):
            raise NoCue("cues are those of a sheet")
        # Gone through from the first tick on, as what was added ahead may be still to begin behind this cue.
        return self.gone(self.rows[0], [*self.calls, called(sheet, cue, tick)])

    def shown(self):
        """All moves, by the ticks at which they begin."""
        order = [machine.name for machine in self.stage.machines()]
        return sorted(self.told, key=lambda move: (move[0], order.index(move[1])))

    def goes_on(self, tick):
        """The way of all that is left behind a stop at a tick, from where all come to rest."""
        going = Going(self.stage, self.rows[0], self.calls)
        while going.now < tick and not going.is_over():
            going.next_tick()
        return self.gone(places_behind(self, tick)[-1], going.left())

    def gone(self, places, calls):
        """The way of machines at rest at places that comes of these calls."""
        going = Going(self.stage, places, calls)
        rows = [going.places_now()]
        while not going.is_over():
            if going.now == MOST_TICKS:
                raise TooLong(f"not at rest within {MOST_TICKS} ticks")
            going.next_tick()
            rows.append(going.places_now())
        ways = Ways(self.stage, places)
        ways.rows = rows
        ways.calls = calls
        ways.told = going.told
        return ways


class Back(Way):
    """What a book tells, from its last places back to its first ones."""

    def __init__(self, stage, book):
        Way.__init__(self, stage)
        self.rows = [list(places) for places in reversed(book)]

    def end(self):
        return len(self.rows) - 1

    def at(self, tick):
        return row_at(self.rows, tick)

    def step_of(self, place, tick):
        return step_in(self.rows, place, tick)
