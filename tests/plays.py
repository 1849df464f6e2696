"""Stages and sheets by chance, small and crowded, for what is held against a plain going."""

from flywright.errors import StageError
from flywright.machines import Floor, Line, Trap, Wagon
from flywright.sheets import Sheet
from flywright.stage import Stage

NAMES = ["disc", "cloth", "cart", "hole", "arm"]
CUES = ["open", "fire", "dusk", "storm", "dawn", "shut"]
# Mostly small, as what begins together or at once is what is asked most.
WAITS = [0, 0, 0, 1, 1, 2, 3, 5, 9, 50]


def some_machine(chance, name):
    """A machine of any kind in lane 0, which is straight, or 1, which is a ring."""
    least = chance.randint(-30, 0)
    greatest = least + chance.choice([0, 5, 40, 90, 150])
    pace, gain = chance.choice([(1, 1), (3, 1), (9, 1), (9, 2), (30, 2), (30, 30), (7, 3)])
    drive = [name, least, greatest, pace, gain, chance.randint(least, greatest)]
    lane, at = chance.randint(0, 1), chance.randint(-10, 60)
    wide, tall = chance.randint(1, 5), chance.randint(1, 9)
    kind = chance.choice(["line", "line", "wagon", "wagon", "trap", "floor"])
    if kind == "line":
        return Line(*drive, lane, at, wide, tall)
    if kind == "wagon":
        return Wagon(*drive, lane, wide, tall)
    if kind == "trap":
        return Trap(*drive, lane, at, wide)
    return Floor(*drive, 1, [(chance.randint(0, 7), wide, tall) for wall in range(chance.randint(1, 2))])


def some_stage(chance):
    while True:
        machines = [some_machine(chance, name) for name in NAMES[:chance.randint(2, 5)]]
        try:
            return Stage(chance.randint(1, 4), {1: chance.choice([8, 30, 70])}, machines)
        except StageError:
            # Too near where they begin.
            continue


def some_places(chance, stage):
    return [chance.choice([machine.place, chance.randint(machine.least, machine.greatest)])
            for machine in stage.machines()]


def some_goal(chance, machine):
    return chance.choice([machine.place, machine.least, chance.randint(machine.least, machine.greatest)])


def some_sheet(chance, stage):
    """A sheet that fits the stage: each cue is followed by later ones alone."""
    names = CUES[:chance.randint(2, 6)]
    cues = []
    for at, name in enumerate(names):
        moved = chance.sample(stage.machines(), chance.choice([1, 1, 2, len(stage.machines())]))
        moves = [(machine.name, some_goal(chance, machine), chance.choice(WAITS)) for machine in moved]
        later = names[at + 1:]
        many = chance.choice([0, 0, 1, 1, 2, 3]) if later else 0
        cues.append((name, moves, [(chance.choice(later), chance.choice(WAITS)) for each in range(many)]))
    return Sheet(cues)


def some_convoy(chance):
    """A stage of wagons in one lane that brake unlike, and a sheet that sends them forth and home together."""
    machines = []
    for name in NAMES[:chance.randint(2, 4)]:
        pace = chance.choice([4, 9, 20])
        drive = [name, -50, 400, pace, chance.choice([1, 2, pace]), 12 * len(machines)]
        machines.append(Wagon(*drive, 0, 1, 1))
    chance.shuffle(machines)
    far = chance.randint(40, 200)
    forth = [(machine.name, machine.place + far + chance.randint(0, 3), chance.randint(0, 3)) for machine in machines]
    home = [(machine.name, machine.place, chance.randint(0, 9)) for machine in machines]
    told = Sheet([("forth", forth, []), ("home", home, [("forth", chance.choice(WAITS))])])
    return Stage(chance.randint(1, 5), {}, machines), told
