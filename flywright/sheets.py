"""Sheets of cues: what each of them moves, and which ones follow it."""

from flywright.errors import BadRow, BadSheet, NoCue
from flywright.machines import FARTHEST, is_name
from flywright.rows import read_number, rows_of
from flywright.stage import Stage
from flywright.steps import is_whole

MOST_CUES = 12
MOST_MOVES = 6
MOST_FOLLOWERS = 3
MOST_WAIT = 50


def is_wait(thing):
    """Whether a thing, which may be anything, is the ticks of a wait."""
    return is_whole(thing, 0, MOST_WAIT)


def is_move(thing):
    """Whether a thing, which may be anything, is a tuple of a machine's name, a goal and a wait."""
    if not isinstance(thing, tuple) or len(thing) != 3:
        return False
    machine, goal, wait = thing
    return is_name(machine) and is_whole(goal, -FARTHEST, FARTHEST) and is_wait(wait)


def is_follower(thing):
    """Whether a thing, which may be anything, is a tuple of a cue's name and a wait."""
    if not isinstance(thing, tuple) or len(thing) != 2:
        return False
    cue, wait = thing
    return is_name(cue) and is_wait(wait)


def copied_cue(cue):
    """A cue as tuples, which no later change of its lists reaches; refuses what is none."""
    if not isinstance(cue, tuple) or len(cue) != 3:
        raise BadSheet("a cue must be a tuple of a name, moves and followers")
    name, moves, followers = cue
    if not is_name(name):
        raise BadSheet("a cue must have a name")
    return (name, copied_moves(moves), copied_followers(followers))


def copied_moves(moves):
    """The moves of a cue as a tuple; refuses what is none."""
    if not isinstance(moves, list) or not 1 <= len(moves) <= MOST_MOVES:
        raise BadSheet(f"moves must be a list of 1 to {MOST_MOVES}")
    copied = []
    for move in moves:
        if not is_move(move) or has_moved(copied, move[0]):
            raise BadSheet("a move must be a tuple of a machine of its own, a goal and a wait")
        machine, goal, wait = move
        copied.append((machine, goal, wait))
    return tuple(copied)


def copied_followers(followers):
    """The followers of a cue as a tuple; refuses what is none."""
    if not isinstance(followers, list) or len(followers) > MOST_FOLLOWERS:
        raise BadSheet(f"followers must be a list of {MOST_FOLLOWERS} at the most")
    if not all(is_follower(follower) for follower in followers):
        raise BadSheet("a follower must be a tuple of a cue and a wait")
    return tuple([(cue, wait) for cue, wait in followers])


def has_moved(moves, name):
    """Whether one of these moves is of the machine with this name."""
    return any(machine == name for machine, goal, wait in moves)


def can_go(stage, name, goal):
    """Whether a stage has a machine with this name, which can go to this goal."""
    for machine in stage.machines():
        if machine.name == name:
            return machine.least <= goal <= machine.greatest
    return False


class Sheet:
    """Cues, each with its moves and its followers."""

    def __init__(self, cues):
        if not isinstance(cues, list) or not 1 <= len(cues) <= MOST_CUES:
            raise BadSheet(f"cues must be a list of 1 to {MOST_CUES}")
        self.by_name = {}
        for name, moves, followers in [copied_cue(cue) for cue in cues]:
            if name in self.by_name:
                raise BadSheet(f"two cues are called {name}")
            self.by_name[name] = (moves, followers)

    def cues(self):
        """The cues as they are handed in, in order."""
        return [(name, self.moves(name), self.followers(name)) for name in self.by_name]

    def names(self):
        """The names of the cues, in order."""
        return list(self.by_name)

    def moves(self, name):
        """The moves of a cue."""
        self.need_cue(name)
        return list(self.by_name[name][0])

    def followers(self, name):
        """The followers of a cue."""
        self.need_cue(name)
        return list(self.by_name[name][1])

    def need_cue(self, name):
        """Refuses what is no cue's name."""
        # Asked first whether it is a name, as what can't be a key can't be looked for.
        if not is_name(name) or name not in self.by_name:
            raise NoCue("no cue has this name")

    def fits(self, stage):
        """Refuses a stage that lacks what the cues move, and cues whose followers are none or come round."""
        if not isinstance(stage, Stage):
            raise BadSheet("a sheet fits a stage alone")
        for name in self.by_name:
            for machine, goal, wait in self.moves(name):
                if not can_go(stage, machine, goal):
                    raise BadSheet(f"{machine} can't go to {goal}")
            for cue, wait in self.followers(name):
                if cue not in self.by_name:
                    raise BadSheet(f"no cue is called {cue}")
        # Gone through when all followers are known to be cues.
        for name in self.by_name:
            if self.comes_round(name):
                raise BadSheet(f"{name} comes to itself by followers")

    def comes_round(self, name):
        """Whether one comes from a cue to it again by followers."""
        met = {}
        ahead = [name]
        while ahead:
            cue = ahead.pop()
            for follower, wait in self.followers(cue):
                if follower == name:
                    return True
                if follower not in met:
                    met[follower] = True
                    ahead.append(follower)
        return False

    def text(self):
        """The text of the sheet."""
        rows = []
        for name, moves, followers in self.cues():
            rows.append(f"cue {name}")
            rows.extend([f"move {machine} {goal} {wait}" for machine, goal, wait in moves])
            rows.extend([f"then {cue} {wait}" for cue, wait in followers])
        return "\n".join(rows)


def read_sheet(text):
    """The sheet that a text tells; refuses the first row that can't stand there."""
    rows = rows_of(text)
    cues = []
    for row, words in enumerate(rows, start=1):
        if not adds_row(words, cues):
            raise BadRow(row)
    name, moves, followers = cues[-1]
    if not moves:
        raise BadRow(len(rows) + 1)
    return Sheet(cues)


def adds_row(words, cues):
    """Adds what a row tells to the cues of the rows ahead; False where it can't stand there."""
    if not cues:
        return words[0] == "cue" and adds_cue(words, cues)
    name, moves, followers = cues[-1]
    if words[0] == "move":
        return not followers and adds_move(words, moves)
    if not moves:
        return False
    if words[0] == "then":
        return adds_follower(words, followers)
    return words[0] == "cue" and adds_cue(words, cues)


def adds_cue(words, cues):
    """Adds the cue that a row begins; False where it can't stand behind these cues."""
    if len(words) != 2 or not is_name(words[1]) or len(cues) == MOST_CUES:
        return False
    if any(name == words[1] for name, moves, followers in cues):
        return False
    cues.append((words[1], [], []))
    return True


def adds_move(words, moves):
    """Adds the move that a row tells; False where it can't stand behind these moves."""
    if len(words) != 4 or len(moves) == MOST_MOVES:
        return False
    # What isn't written as a number is None here, which makes no move.
    move = (words[1], read_number(words[2]), read_number(words[3]))
    if not is_move(move) or has_moved(moves, words[1]):
        return False
    moves.append(move)
    return True


def adds_follower(words, followers):
    """Adds the follower that a row tells; False where it can't stand behind these followers."""
    if len(words) != 3 or len(followers) == MOST_FOLLOWERS:
        return False
    follower = (words[1], read_number(words[2]))
    if not is_follower(follower):
        return False
    followers.append(follower)
    return True
