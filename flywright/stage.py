"""A stage: its room, its rings and its machines, and which of these are too near to each other."""

from flywright.errors import BadName, BadNumber, BadStage
from flywright.machines import LAST_LANE, Floor, Line, Trap, Wagon, is_name
from flywright.steps import is_whole

MOST_ROOM = 1000
SHORTEST_RING = 8
LONGEST_RING = 720
MOST_MACHINES = 8


def is_room(thing):
    """Whether a thing, which may be anything, is the room of a stage."""
    return is_whole(thing, 1, MOST_ROOM)


def is_ring(lane, length):
    """Whether two things, which may be anything, are a lane and the length of a ring."""
    return is_whole(lane, 0, LAST_LANE) and is_whole(length, SHORTEST_RING, LONGEST_RING)


def fits_lane(machine, rings):
    """Whether a machine can be in its lane, which is straight or one of these rings."""
    lane = machine.lane()
    if lane not in rings:
        return machine.kind() != "floor"
    return machine.wide() <= rings[lane] and machine.offset() < rings[lane]


def need_rings(rings):
    """Refuses what is no dict from lanes to the lengths of their rings."""
    if not isinstance(rings, dict):
        raise BadStage("rings must be a dict")
    for lane, length in rings.items():
        if not is_ring(lane, length):
            raise BadStage(f"a ring has a lane from 0 to {LAST_LANE}, and {SHORTEST_RING} to {LONGEST_RING} of length")


def need_machines(machines, rings):
    """Refuses what is no list of machines that can be in lanes with these rings."""
    if not isinstance(machines, list) or not 1 <= len(machines) <= MOST_MACHINES:
        raise BadStage(f"machines must be a list of 1 to {MOST_MACHINES}")
    names = {}
    for machine in machines:
        # Asked by its kinds, as a Machine by itself is none.
        if not isinstance(machine, (Line, Wagon, Floor, Trap)):
            raise BadStage("a machine must be a line, a wagon, a floor or a trap")
        if machine.name in names:
            raise BadStage(f"two machines are called {machine.name}")
        if not fits_lane(machine, rings):
            raise BadStage(f"{machine.name} can't be in its lane")
        names[machine.name] = True


def straight_gap(one, long, other, far):
    """The gap of two stretches, told by where they begin and how long they are, in a straight lane or in height."""
    return max(0, other - one - long, one - other - far)


def ring_gap(one, long, other, far, length):
    """The gap of two stretches in a ring; one that is longer than the ring has none, as if it were just as long."""
    forth = (other - one) % length
    back = (one - other) % length
    if forth < long or back < far:
        return 0
    return min(forth - long, back - far)


class Stage:
    """Machines in lanes, some of which are rings, and the room that must be between any two of them."""

    def __init__(self, room, rings, machines):
        if not is_room(room):
            raise BadStage(f"the room must be a whole number from 1 to {MOST_ROOM}")
        need_rings(rings)
        need_machines(machines, rings)
        self.room = room
        self.lengths = {lane: rings[lane] for lane in rings}
        self.by_name = {machine.name: machine for machine in machines}
        near = self.first_near([machine.place for machine in machines])
        if near is not None:
            raise BadStage(f"{near[0]} and {near[1]} are too near where they begin")

    def rings(self):
        """The lengths of the rings, by their lanes."""
        return {lane: self.lengths[lane] for lane in self.lengths}

    def machines(self):
        """The machines, in order."""
        return list(self.by_name.values())

    def machine(self, name):
        """The machine that has a name."""
        # Asked first whether it is a name, as what can't be a key can't be looked for.
        if not is_name(name) or name not in self.by_name:
            raise BadName("no machine has this name")
        return self.by_name[name]

    def is_near(self, one, other, place, goal):
        """Whether two machines, told by their names, are too near at these places."""
        first = self.machine(one)
        second = self.machine(other)
        if one == other:
            raise BadName("a machine is never too near to itself")
        return self.are_near((first.kind(), first.boxes(place)), (second.kind(), second.boxes(goal)))

    def first_near(self, places, ahead=None):
        """The names of the first two machines that are too near at places, or in a tick from those ahead; or None."""
        self.need_places(places)
        if ahead is None:
            # With no tick ahead nothing is swept: what is taken from a place to itself are the boxes there.
            return self.first_swept(places, places)
        self.need_places(ahead)
        return self.first_swept(ahead, places)

    def first_swept(self, ahead, places):
        """As first_near in a tick, of places that are known to be numbers, the machines' bounds aside."""
        taken = []
        for machine, begun, place in zip(self.machines(), ahead, places):
            taken.append((machine.kind(), machine.swept(begun, place)))
        names = list(self.by_name)
        # Nearness is mutual, so the others of the first one are all behind it.
        for at, one in enumerate(taken):
            for behind in range(at + 1, len(taken)):
                if self.are_near(one, taken[behind]):
                    return (names[at], names[behind])
        return None

    def need_places(self, places):
        """Refuses what is no list of a place within its bounds for each machine."""
        if not isinstance(places, list) or len(places) != len(self.by_name):
            raise BadNumber("places must be a list with one for each machine")
        for machine, place in zip(self.machines(), places):
            machine.need_within(place)

    def are_near(self, one, other):
        """Whether two machines, each told by its kind and its boxes, are too near."""
        one_kind, one_boxes = one
        other_kind, other_boxes = other
        if one_kind == "trap" and other_kind == "trap":
            return False
        return any(self.touches(box, against) for box in one_boxes for against in other_boxes)

    def touches(self, box, against):
        """Whether two boxes are too near."""
        lane, at, wide, low, tall = box
        other_lane, other_at, other_wide, other_low, other_tall = against
        if lane != other_lane or straight_gap(low, tall, other_low, other_tall) >= self.room:
            return False
        if lane in self.lengths:
            return ring_gap(at, wide, other_at, other_wide, self.lengths[lane]) < self.room
        return straight_gap(at, wide, other_at, other_wide) < self.room
