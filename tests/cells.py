"""Nearness counted plainly, cell by cell, for small numbers: what the stage's gaps are held against."""

import helpers


class Plain:
    """What a machine is told, the machine made of it, and the cells that it takes."""

    def __init__(self, kind, name, place, lane, at, wide, tall, walls, least=-60, greatest=60):
        self.kind, self.name, self.place, self.lane = kind, name, place, lane
        self.at, self.wide, self.tall, self.walls = at, wide, tall, walls
        self.least, self.greatest = least, greatest

    def machine(self):
        ends = {"least": self.least, "greatest": self.greatest}
        if self.kind == "line":
            return helpers.line(self.name, self.place, self.lane, self.at, self.wide, self.tall, **ends)
        if self.kind == "wagon":
            return helpers.wagon(self.name, self.place, self.lane, self.wide, self.tall, **ends)
        if self.kind == "trap":
            return helpers.trap(self.name, self.place, self.lane, self.at, self.wide, **ends)
        return helpers.floor(self.name, self.place, self.lane, self.walls, **ends)

    def cells_at(self, place):
        """The cells (along, height) that it takes at a place."""
        if self.kind == "line":
            return block(self.at, self.wide, place, self.tall)
        if self.kind == "wagon":
            return block(place, self.wide, 0, self.tall)
        if self.kind == "trap":
            return block(self.at, self.wide, 0, 1) if place < 0 else set()
        return set().union(*[block(offset + place, wide, 0, tall) for offset, wide, tall in self.walls])

    def cells(self, ahead, place):
        """All cells that it takes at a place between two, these among them."""
        low, high = min(ahead, place), max(ahead, place)
        return set().union(*[self.cells_at(each) for each in range(low, high + 1)])


def block(at, wide, low, tall):
    return {(along, height) for along in range(at, at + wide) for height in range(low, low + tall)}


def cells_between(one, other, length):
    """How many cells are between two along a lane, in a ring of a length on the shorter way."""
    apart = abs(one - other)
    if length is not None:
        apart = min(apart % length, -apart % length)
    return max(0, apart - 1)


def plain_near(room, rings, one, other, one_places, other_places):
    """Whether two machines are too near, each going from a place to a place in a tick."""
    if one.lane != other.lane or one.kind == other.kind == "trap":
        return False
    length = rings.get(one.lane)
    others = other.cells(*other_places)
    for along, height in one.cells(*one_places):
        for far, high in others:
            if abs(height - high) - 1 < room and cells_between(along, far, length) < room:
                return True
    return False


def plain_first(room, rings, plains, ahead, places):
    """The names of the first machine that is too near to another, and of the first such other."""
    ways = list(zip(ahead, places))
    for at, one in enumerate(plains):
        for behind, other in enumerate(plains):
            if at != behind and plain_near(room, rings, one, other, ways[at], ways[behind]):
                return (one.name, other.name)
    return None
