"""A plain going, tick by tick and turn by turn: what ways, stops and shows are held against.

It scans all cues and moves anew in each turn and keeps no plan; a show by it looks ahead with a copy of itself.
"""

import copy

from flywright.errors import Busy, Moving, NoCue, NotStopped, Stopped, TooLong, TooNear
from flywright.steps import steps_of


class Wrong(Exception):
    """A refusal, told as a tuple."""

    def __init__(self, *told):
        super().__init__(told)
        self.told = told


def outcome(act, *told):
    """What comes of an act: "done", or its refusal as a tuple."""
    try:
        act(*told)
    except Wrong as wrong:
        return wrong.told
    except Busy as busy:
        return ("busy", busy.name)
    except TooNear as near:
        return ("near", near.tick, near.one, near.other)
    except (TooLong, Stopped, NotStopped, Moving, NoCue) as refusal:
        return (type(refusal).__name__,)
    return "done"


class Live:
    """Machines, and cues that are to begin, are played and have ended."""

    def __init__(self, stage, places):
        self.stage, self.machines, self.places = stage, stage.machines(), list(places)
        self.names = [machine.name for machine in self.machines]
        self.steps = [0] * len(places)
        self.tick, self.cues, self.shown = 0, [], []

    def copied(self):
        """A copy of all but the stage and the sheets, which nothing changes."""
        kept = [self.stage, self.machines] + [cue["sheet"] for cue in self.cues]
        return copy.deepcopy(self, {id(thing): thing for thing in kept})

    def call(self, sheet, name, tick):
        moves = [{"machine": machine, "goal": goal, "wait": wait, "state": "waits"}
                 for machine, goal, wait in sheet.moves(name)]
        self.cues.append({"sheet": sheet, "begins": tick, "moves": moves, "state": "waits",
                          "followers": sheet.followers(name)})

    def moves(self, *states):
        return [move for cue in self.cues for move in cue["moves"] if move["state"] in states]

    def is_over(self):
        return all(cue["state"] == "ended" for cue in self.cues)

    def go_ahead_of_turns(self):
        self.tick += 1
        self.steps = [0] * len(self.places)
        for move in self.moves("goes"):
            at = self.names.index(move["machine"])
            self.steps[at] = move["steps"].pop(0) * move["side"]
            self.places[at] += self.steps[at]
            if not move["steps"]:
                move["state"] = "ended"
        self.end_cues()

    def go(self):
        self.go_ahead_of_turns()
        self.take_turns()

    def end_cues(self):
        for cue in list(self.cues):
            if cue["state"] == "plays" and all(move["state"] == "ended" for move in cue["moves"]):
                cue["state"] = "ended"
                for name, wait in cue["followers"]:
                    self.call(cue["sheet"], name, self.tick + wait)

    def take_turns(self):
        while self.take_turn():
            self.end_cues()

    def take_turn(self):
        for cue in self.cues:
            if cue["state"] == "waits" and cue["begins"] == self.tick:
                cue["state"] = "plays"
                for move in cue["moves"]:
                    move["begins"] = self.tick + move["wait"]
        turn = [move for cue in self.cues if cue["state"] == "plays" for move in cue["moves"]
                if move["state"] == "waits" and move["begins"] == self.tick]
        self.need_good(turn)
        for move in turn:
            self.begin(move)
        return bool(turn)

    def need_good(self, turn):
        busy = [move["machine"] for move in self.moves("goes")]
        busy += [move["machine"] for move in self.moves("ended") if move["begins"] == self.tick]
        for at, move in enumerate(turn):
            busy += [other["machine"] for other in turn[:at] if other["machine"] == move["machine"]]
        for name in self.names:
            if name in busy and name in [move["machine"] for move in turn]:
                raise Wrong("busy", name)

    def begin(self, move):
        at = self.names.index(move["machine"])
        way = move["goal"] - self.places[at]
        try:
            move["steps"] = steps_of(abs(way), self.machines[at].pace, self.machines[at].gain)
        except TooLong:
            raise Wrong("TooLong") from None
        move["side"] = 1 if way > 0 else -1
        move["state"] = "goes" if way else "ended"
        self.shown.append((self.tick, move["machine"], move["goal"]))

    def run_out(self):
        """The places, and the steps, at this tick and each later one to the end."""
        rows, steps = [list(self.places)], [list(self.steps)]
        while not self.is_over():
            if self.tick == 400:
                raise Wrong("TooLong")
            self.go()
            rows.append(list(self.places))
            steps.append(list(self.steps))
        return rows, steps

    def sorted_moves(self):
        return sorted(self.shown, key=lambda move: (move[0], self.names.index(move[1])))

    def left_from(self, places):
        """What goes on at places behind a stop at this tick, ahead of its first turn."""
        live = Live(self.stage, places)
        for cue in self.cues:
            moves = [dict(move) for move in cue["moves"] if move["state"] != "ended"]
            if cue["state"] == "waits":
                live.cues.append(dict(cue, moves=moves, begins=cue["begins"] - self.tick))
            elif cue["state"] == "plays":
                for move in moves:
                    move["wait"] = move["begins"] - self.tick if move["state"] == "waits" else 0
                    move["state"] = "waits"
                live.cues.append(dict(cue, moves=moves, begins=0, state="waits"))
        return live


def plain_stop(stage, places, steps):
    """The places behind a stop, its own tick first, till all rest: each goes slower by its gain in each tick."""
    rows, speeds = [list(places)], list(steps)
    while True:
        for at, machine in enumerate(stage.machines()):
            side = 1 if speeds[at] > 0 else -1
            speeds[at] = side * max(0, abs(speeds[at]) - machine.gain)
        if not any(speeds):
            return rows
        rows.append([place + speed for place, speed in zip(rows[-1], speeds)])


def plain_near(stage, rows, steps, first):
    """The first tick that isn't let by and two machines, of the rows from the tick first on; None where all are."""
    for at, row in enumerate(rows):
        near = stage.first_near(row, rows[at - 1] if at else None)
        if near:
            return (first + at, *near)
    for at, row in enumerate(rows):
        braking = plain_stop(stage, row, steps[at])
        for ahead, behind in zip(braking, braking[1:]):
            near = stage.first_near(behind, ahead)
            if near:
                return (first + at, *near)
    return None


class LiveShow:
    """A show that goes by a Live."""

    def __init__(self, stage, sheet):
        self.stage, self.sheet = stage, sheet
        self.rest([machine.place for machine in stage.machines()])
        self.book = [self.live.places]
        # Behind a stop: the places to come.
        self.braking = None

    def rest(self, places):
        self.live = Live(self.stage, places)
        self.ahead_of_turns = self.live.copied()

    def clock(self):
        return len(self.book) - 1

    def is_still(self):
        return self.live.is_over() if self.braking is None else not self.braking

    def go(self):
        if self.braking is not None:
            self.book.append(self.braking.pop(0) if self.braking else self.book[-1])
            return
        self.live.go_ahead_of_turns()
        self.ahead_of_turns = self.live.copied()
        self.live.take_turns()
        self.book.append(list(self.live.places))

    def press(self, cue):
        if cue not in self.sheet.names():
            raise Wrong("NoCue")
        if self.braking is not None:
            raise Wrong("Stopped")
        live = Live(self.stage, self.book[-1]) if self.is_still() else self.ahead_of_turns.copied()
        live.call(self.sheet, cue, live.tick)
        self.take(live)

    def take(self, live):
        ahead_of_turns = live.copied()
        live.take_turns()
        self.need_let_by(*live.copied().run_out())
        self.live, self.ahead_of_turns = live, ahead_of_turns

    def need_let_by(self, rows, steps):
        near = plain_near(self.stage, rows, steps, self.clock())
        if near:
            raise Wrong("near", *near)

    def stop(self):
        if self.braking is not None:
            raise Wrong("Stopped")
        self.braking = plain_stop(self.stage, self.live.places, self.live.steps)[1:]

    def go_on(self):
        if self.braking is None:
            raise Wrong("NotStopped")
        if self.braking:
            raise Wrong("Moving")
        self.take(self.live.left_from(self.book[-1]))
        self.braking = None

    def back(self):
        if self.braking is not None:
            raise Wrong("Stopped")
        if not self.is_still():
            raise Wrong("Moving")
        if self.clock() > 1000:
            raise Wrong("TooLong")
        rows = self.book[::-1]
        steps = [[0] * len(rows[0])]
        steps += [[place - ahead for ahead, place in zip(*pair)] for pair in zip(rows, rows[1:])]
        self.need_let_by(rows, steps)
        self.book += rows[1:]
        self.rest(rows[-1])
