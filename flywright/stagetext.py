"""A stage as text, by rows of words."""

from flywright.errors import BadName, BadNumber, BadRow
from flywright.machines import Floor, Line, Trap, Wagon
from flywright.rows import read_number, rows_of
from flywright.stage import MOST_MACHINES, Stage, fits_lane, is_ring, is_room

# How many words the row of a machine has; that of a floor has its walls behind these.
MANY_WORDS = {"line": 11, "wagon": 10, "floor": 8, "trap": 10}


def stage_text(stage):
    """The text of a stage."""
    rings = stage.rings()
    rows = [f"room {stage.room}"]
    rows.extend([f"ring {lane} {rings[lane]}" for lane in sorted(rings)])
    rows.extend([machine.words() for machine in stage.machines()])
    return "\n".join(rows)


def read_stage(text):
    """The stage that a text tells; refuses the first row that can't stand there."""
    rows = rows_of(text)
    room = read_room(rows[0])
    if room is None:
        raise BadRow(1)
    rings = {}
    machines = []
    for row, words in enumerate(rows[1:], start=2):
        if not adds_row(words, rings, machines):
            raise BadRow(row)
    if not machines:
        raise BadRow(len(rows) + 1)
    return Stage(room, rings, machines)


def read_room(words):
    """The room that a row tells; None where it tells none."""
    if len(words) != 2 or words[0] != "room":
        return None
    room = read_number(words[1])
    return room if is_room(room) else None


def adds_row(words, rings, machines):
    """Adds what a row tells to the rings or the machines of the rows ahead; False where it can't stand there."""
    if words[0] == "ring":
        return not machines and adds_ring(words, rings)
    return len(machines) < MOST_MACHINES and adds_machine(words, rings, machines)


def adds_ring(words, rings):
    """Adds the ring that a row tells; False where it can't stand behind these rings."""
    if len(words) != 3:
        return False
    lane = read_number(words[1])
    length = read_number(words[2])
    if not is_ring(lane, length) or any(lane <= ahead for ahead in rings):
        return False
    rings[lane] = length
    return True


def adds_machine(words, rings, machines):
    """Adds the machine that a row tells; False where it can't stand behind these machines."""
    if words[0] not in MANY_WORDS:
        return False
    try:
        machine = read_floor(words) if words[0] == "floor" else read_plain(words)
    except (BadName, BadNumber):
        return False
    if machine is None or not fits_lane(machine, rings):
        return False
    if any(machine.name == ahead.name for ahead in machines):
        return False
    machines.append(machine)
    return True


def read_plain(words):
    """The line, wagon or trap that a row tells; None where it has more words or fewer."""
    kind = words[0]
    if len(words) != MANY_WORDS[kind]:
        return None
    name = words[1]
    # What isn't written as a number is None here, which no machine takes.
    numbers = [read_number(word) for word in words[2:]]
    if kind == "line":
        return Line(name, *numbers)
    if kind == "wagon":
        return Wagon(name, *numbers)
    return Trap(name, *numbers)


def read_floor(words):
    """The floor that a row tells; None where it has too few words."""
    ahead = MANY_WORDS["floor"]
    if len(words) < ahead:
        return None
    name = words[1]
    numbers = [read_number(word) for word in words[2:ahead]]
    walls = [read_wall(word) for word in words[ahead:]]
    return Floor(name, *numbers, walls)


def read_wall(word):
    """The numbers that a word tells of a wall; whether they make one is asked by the floor."""
    return tuple([read_number(part) for part in word.split(":")])
