"""The machines of a stage, and the boxes that they have by their places."""

from flywright.errors import BadName, BadNumber
from flywright.steps import need_drive, need_whole

FARTHEST = 10 ** 9
LAST_LANE = 9
MOST_OFFSET = 719
MOST_SIZE = 10 ** 6
MOST_WALLS = 4
LONGEST_NAME = 8


def is_name(thing):
    """Whether a thing, which may be anything, is a name of a machine or a cue."""
    if not isinstance(thing, str) or not 1 <= len(thing) <= LONGEST_NAME:
        return False
    return all("a" <= sign <= "z" for sign in thing)


def need_lane(lane):
    """Refuses what is no lane."""
    need_whole(lane, 0, LAST_LANE, "lane")


def need_place(place, what):
    """Refuses what is no place."""
    need_whole(place, -FARTHEST, FARTHEST, what)


def need_size(size, what):
    """Refuses what is no wide and no tall of a box."""
    need_whole(size, 1, MOST_SIZE, what)


def copied_walls(walls):
    """The walls of a floor as a tuple, which no later change of the list reaches; refuses what is none."""
    if not isinstance(walls, list) or not 1 <= len(walls) <= MOST_WALLS:
        raise BadNumber(f"walls must be a list of 1 to {MOST_WALLS}")
    return tuple([copied_wall(wall) for wall in walls])


def copied_wall(wall):
    """A wall as a plain tuple; refuses what is none."""
    if not isinstance(wall, tuple) or len(wall) != 3:
        raise BadNumber("a wall must be a tuple of offset, wide and tall")
    offset, wide, tall = wall
    need_whole(offset, 0, MOST_OFFSET, "offset")
    need_size(wide, "wide")
    need_size(tall, "tall")
    return (offset, wide, tall)


class Machine:
    """What all machines have. It isn't made by itself: each kind below tells what is missing here."""

    def __init__(self, name, least, greatest, pace, gain, place):
        if not is_name(name):
            raise BadName(f"a name must be 1 to {LONGEST_NAME} small letters")
        need_place(least, "least place")
        need_whole(greatest, least, FARTHEST, "greatest place")
        need_drive(pace, gain)
        need_whole(place, least, greatest, "place")
        self.name = name
        self.least = least
        self.greatest = greatest
        self.pace = pace
        self.gain = gain
        self.place = place

    def kind(self):
        """The word for its kind."""
        raise NotImplementedError("a kind of machine tells it")

    def lane(self):
        """The lane of all its boxes."""
        raise NotImplementedError("a kind of machine tells it")

    def wide(self):
        """The greatest wide of its boxes."""
        raise NotImplementedError("a kind of machine tells it")

    def offset(self):
        """The greatest offset of its walls."""
        return 0

    def boxes(self, place):
        """Its boxes at a place."""
        # What it takes without a way is just what it has.
        return self.taken(place, place)

    def taken(self, ahead, place):
        """What it takes in a tick between two places."""
        self.need_within(ahead)
        self.need_within(place)
        return self.swept(ahead, place)

    def words(self):
        """Its row in the text of a stage; here, what the rows of all kinds begin with."""
        return f"{self.kind()} {self.name} {self.least} {self.greatest} {self.pace} {self.gain} {self.place}"

    def swept(self, ahead, place):
        """What it takes in a tick between two places that are known to be numbers, its bounds aside."""
        raise NotImplementedError("a kind of machine tells it")

    def need_within(self, place):
        """Refuses what is no place within its bounds."""
        need_whole(place, self.least, self.greatest, "place")


class Line(Machine):
    """A piece that hangs in a lane, and rises and sinks."""

    def __init__(self, name, least, greatest, pace, gain, place, lane, at, wide, tall):
        Machine.__init__(self, name, least, greatest, pace, gain, place)
        need_lane(lane)
        need_place(at, "at")
        need_size(wide, "wide")
        need_size(tall, "tall")
        self.lane_told = lane
        self.at_told = at
        self.wide_told = wide
        self.tall_told = tall

    def kind(self):
        return "line"

    def lane(self):
        return self.lane_told

    def wide(self):
        return self.wide_told

    def offset(self):
        return 0

    def boxes(self, place):
        return self.taken(place, place)

    def taken(self, ahead, place):
        self.need_within(ahead)
        self.need_within(place)
        return self.swept(ahead, place)

    def words(self):
        begun = super().words()
        return f"{begun} {self.lane_told} {self.at_told} {self.wide_told} {self.tall_told}"

    def swept(self, ahead, place):
        tall = self.tall_told + abs(place - ahead)
        return [(self.lane_told, self.at_told, self.wide_told, min(ahead, place), tall)]


class Wagon(Machine):
    """What stands in a lane, and goes along it."""

    def __init__(self, name, least, greatest, pace, gain, place, lane, wide, tall):
        Machine.__init__(self, name, least, greatest, pace, gain, place)
        need_lane(lane)
        need_size(wide, "wide")
        need_size(tall, "tall")
        self.lane_told = lane
        self.wide_told = wide
        self.tall_told = tall

    def kind(self):
        return "wagon"

    def lane(self):
        return self.lane_told

    def wide(self):
        return self.wide_told

    def offset(self):
        return 0

    def boxes(self, place):
        return self.taken(place, place)

    def taken(self, ahead, place):
        self.need_within(ahead)
        self.need_within(place)
        return self.swept(ahead, place)

    def words(self):
        begun = super().words()
        return f"{begun} {self.lane_told} {self.wide_told} {self.tall_told}"

    def swept(self, ahead, place):
        wide = self.wide_told + abs(place - ahead)
        return [(self.lane_told, min(ahead, place), wide, 0, self.tall_told)]


class Trap(Machine):
    """A part of the stage's ground, which is a hole while it is below 0."""

    def __init__(self, name, least, greatest, pace, gain, place, lane, at, wide):
        Machine.__init__(self, name, least, greatest, pace, gain, place)
        need_lane(lane)
        need_place(at, "at")
        need_size(wide, "wide")
        self.lane_told = lane
        self.at_told = at
        self.wide_told = wide

    def kind(self):
        return "trap"

    def lane(self):
        return self.lane_told

    def wide(self):
        return self.wide_told

    def offset(self):
        return 0

    def boxes(self, place):
        return self.taken(place, place)

    def taken(self, ahead, place):
        self.need_within(ahead)
        self.need_within(place)
        return self.swept(ahead, place)

    def words(self):
        begun = super().words()
        return f"{begun} {self.lane_told} {self.at_told} {self.wide_told}"

    def swept(self, ahead, place):
        if min(ahead, place) >= 0:
            return []
        return [(self.lane_told, self.at_told, self.wide_told, 0, 1)]


class Floor(Machine):
    """A floor that turns in a ring lane, with walls on it."""

    def __init__(self, name, least, greatest, pace, gain, place, lane, walls):
        Machine.__init__(self, name, least, greatest, pace, gain, place)
        need_lane(lane)
        self.lane_told = lane
        self.walls = copied_walls(walls)

    def kind(self):
        return "floor"

    def lane(self):
        return self.lane_told

    def wide(self):
        return max([wide for offset, wide, tall in self.walls])

    def offset(self):
        return max([offset for offset, wide, tall in self.walls])

    def boxes(self, place):
        return self.taken(place, place)

    def taken(self, ahead, place):
        self.need_within(ahead)
        self.need_within(place)
        return self.swept(ahead, place)

    def words(self):
        begun = super().words()
        walls = " ".join([f"{offset}:{wide}:{tall}" for offset, wide, tall in self.walls])
        return f"{begun} {self.lane_told} {walls}"

    def swept(self, ahead, place):
        low = min(ahead, place)
        way = abs(place - ahead)
        return [(self.lane_told, offset + low, wide + way, 0, tall) for offset, wide, tall in self.walls]
