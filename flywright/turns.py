"""What goes on on a stage while cues are played, tick by tick and turn by turn.

A call is a tuple (tick, sheet, moves, followers): a cue, whole or what is left of one, that begins at a tick.
"""

from flywright.errors import Busy
from flywright.steps import steps_of


def called(sheet, cue, tick):
    """The call of a whole cue of a sheet."""
    return (tick, sheet, sheet.moves(cue), sheet.followers(cue))


class Playing:
    """A cue that has begun: its moves that haven't ended, and what follows it."""

    def __init__(self, call):
        tick, sheet, moves, followers = call
        self.sheet = sheet
        self.following = followers
        # By machines, as a cue moves none twice: the goal, and the tick at which the move begins.
        self.unended = {machine: (goal, tick + wait) for machine, goal, wait in moves}

    def left_at(self, tick):
        """The call of what is left behind a stop at a tick, in a way that has this tick as 0."""
        # A move that began ahead of the stop was broken off by it, so nothing is left of its wait.
        moves = [(machine, goal, max(0, begins - tick)) for machine, (goal, begins) in self.unended.items()]
        return (0, self.sheet, moves, self.following)


class Going:
    """All machines at a tick, with what they are about and what is to come."""

    def __init__(self, stage, places, calls):
        self.stage = stage
        self.now = 0
        self.standing = {machine.name: place for machine, place in zip(stage.machines(), places)}
        # By machines: the cue that moves it and the steps to come; and the tick at which its last move began.
        self.moving = {}
        self.began = {}
        # By the ticks at which they begin: calls, and moves as tuples of their cue and machine.
        self.calls_at = {}
        self.moves_at = {}
        self.playing = []
        self.told = []
        for call in calls:
            self.add_call(call)
        self.take_turns()

    def add_call(self, call):
        """Lets a cue begin at the tick that its call tells."""
        self.calls_at.setdefault(call[0], []).append(call)

    def places_now(self):
        """The places of all machines, in order."""
        return list(self.standing.values())

    def is_over(self):
        """Whether all are at rest and nothing is to come."""
        return not self.moving and not self.calls_at and not self.moves_at

    def left(self):
        """The calls of what is left behind a stop at this tick, in a way that has this tick as 0."""
        calls = [playing.left_at(self.now) for playing in self.playing if playing.unended]
        for waiting in self.calls_at.values():
            calls.extend([(tick - self.now, sheet, moves, behind) for tick, sheet, moves, behind in waiting])
        return calls

    def next_tick(self):
        """Lets a tick go by."""
        self.now += 1
        self.take_steps()
        self.take_turns()

    def take_steps(self):
        """Each machine that moves goes on by a step; what ends by it calls its followers ahead of the turns."""
        for name in list(self.moving):
            playing, steps = self.moving[name]
            self.standing[name] += steps.pop(0)
            if not steps:
                del self.moving[name]
                self.end_move(playing, name)

    def take_turns(self):
        """All that is to begin at this tick begins, then what comes of it at the same tick, and so on."""
        while self.now in self.calls_at or self.now in self.moves_at:
            calls = self.calls_at.pop(self.now, [])
            for call in calls:
                self.begin_cue(call)
            moves = self.moves_at.pop(self.now, [])
            self.need_idle([name for playing, name in moves])
            for playing, name in moves:
                self.begin_move(playing, name)

    def begin_cue(self, call):
        """Begins a cue: its moves are to come, those without a wait in this very turn."""
        playing = Playing(call)
        self.playing.append(playing)
        for name, (goal, begins) in playing.unended.items():
            self.moves_at.setdefault(begins, []).append((playing, name))

    def need_idle(self, names):
        """Refuses a turn that moves a machine which is busy, or one twice; of several the first one in order."""
        for name in self.standing:
            if names.count(name) > 1 or (name in names and self.is_busy(name)):
                raise Busy(name)

    def is_busy(self, name):
        """Whether a machine moves, or has begun a move at this very tick, even one of no distance."""
        return name in self.moving or self.began.get(name) == self.now

    def begin_move(self, playing, name):
        """Begins a move, from where its machine stands; one of no distance ends at once."""
        goal, begins = playing.unended[name]
        machine = self.stage.machine(name)
        way = goal - self.standing[name]
        steps = steps_of(abs(way), machine.pace, machine.gain)
        self.began[name] = self.now
        self.told.append((self.now, name, goal))
        if steps:
            self.moving[name] = (playing, steps if way > 0 else [-step for step in steps])
        else:
            self.end_move(playing, name)

    def end_move(self, playing, name):
        """Ends a move; the last one of a cue calls its followers."""
        del playing.unended[name]
        if not playing.unended:
            for cue, wait in playing.following:
                self.add_call(called(playing.sheet, cue, self.now + wait))
