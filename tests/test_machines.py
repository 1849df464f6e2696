"""Points 1, 4, 5 and 6a, and the interface of flywright/machines.py."""

import unittest

from flywright.errors import BadName, BadNumber
from flywright.machines import Floor, Line, Machine, Trap, Wagon
from helpers import BILLION, MILLION, NO_NAMES, NO_NUMBERS, Odd, around, need_refused, with_one

KINDS = [Line, Wagon, Trap, Floor]
DRIVE = ["cloth", -20, 50, 7, 3, 10]
WALLS = [(0, 10, 5), (719, 4, 8), (3, 12, 1), (90, 2, 7)]
# What each kind is told behind what all are told.
TAILS = {Line: [2, -4, 12, 3], Wagon: [5, 6, 9], Trap: [0, 15, 8], Floor: [9, WALLS]}
# The least and the most of each number that a kind is told behind what all are told.
LANE, AT, SIZE = (0, 9), (-BILLION, BILLION), (1, MILLION)
TAIL_BOUNDS = {Line: [LANE, AT, SIZE, SIZE], Wagon: [LANE, SIZE, SIZE], Trap: [LANE, AT, SIZE], Floor: [LANE]}


def told(kind):
    """Good arguments of a kind."""
    return DRIVE + TAILS[kind]


def made(kind):
    return kind(*told(kind))


def beginning(least, greatest, place, kind):
    """A machine of a kind with such places."""
    return kind("cloth", least, greatest, 7, 3, place, *TAILS[kind])


class FieldsTest(unittest.TestCase):
    def test_each_kind_is_straight_under_machine(self):
        for kind in KINDS:
            self.assertEqual((Machine,), kind.__bases__)
            self.assertIsInstance(made(kind), Machine)

    def test_fields(self):
        for kind in KINDS:
            machine = made(kind)
            fields = [machine.name, machine.least, machine.greatest, machine.pace, machine.gain, machine.place]
            self.assertEqual(DRIVE, fields)

    def test_kind_lane_wide_offset(self):
        tellings = [(made(kind).kind(), made(kind).lane(), made(kind).wide(), made(kind).offset()) for kind in KINDS]
        self.assertEqual([("line", 2, 12, 0), ("wagon", 5, 6, 0), ("trap", 0, 8, 0), ("floor", 9, 12, 719)], tellings)

    def test_words(self):
        wanted = [
            "line cloth -20 50 7 3 10 2 -4 12 3",
            "wagon cloth -20 50 7 3 10 5 6 9",
            "trap cloth -20 50 7 3 10 0 15 8",
            "floor cloth -20 50 7 3 10 9 0:10:5 719:4:8 3:12:1 90:2:7",
        ]
        self.assertEqual(wanted, [made(kind).words() for kind in KINDS])

    def test_numbers_at_their_bounds(self):
        line = Line("a", -BILLION, BILLION, BILLION, BILLION, -BILLION, 0, -BILLION, MILLION, MILLION)
        low, high = "-1000000000", "1000000000"
        self.assertEqual(f"line a {low} {high} {high} {high} {low} 0 {low} 1000000 1000000", line.words())
        self.assertEqual((0, MILLION), (line.lane(), line.wide()))
        line = Line("abcdefgh", BILLION, BILLION, 1, 1, BILLION, 9, BILLION, 1, 1)
        self.assertEqual(f"line abcdefgh {high} {high} 1 1 {high} 9 {high} 1 1", line.words())
        wagon = Wagon("z", -BILLION, -BILLION, 1, BILLION, -BILLION, 9, 1, MILLION)
        self.assertEqual(f"wagon z {low} {low} 1 {high} {low} 9 1 1000000", wagon.words())
        wagon = Wagon("az", 0, 0, BILLION, 1, 0, 0, MILLION, 1)
        self.assertEqual(f"wagon az 0 0 {high} 1 0 0 1000000 1", wagon.words())
        trap = Trap("q", -1, 0, 1, 1, -1, 9, -BILLION, MILLION)
        self.assertEqual(f"trap q -1 0 1 1 -1 9 {low} 1000000", trap.words())
        trap = Trap("q", -1, 0, 1, 1, 0, 0, BILLION, 1)
        self.assertEqual(f"trap q -1 0 1 1 0 0 {high} 1", trap.words())
        floor = Floor("f", -BILLION, BILLION, 1, 1, BILLION, 0, [(719, MILLION, 1), (0, 1, MILLION)])
        self.assertEqual(f"floor f {low} {high} 1 1 {high} 0 719:1000000:1 0:1:1000000", floor.words())
        self.assertEqual((0, MILLION, 719), (floor.lane(), floor.wide(), floor.offset()))

    def test_greatest_wide_and_offset_of_walls(self):
        self.assertEqual((2, 0), self.of_walls([(0, 2, 900)]))
        self.assertEqual((9, 40), self.of_walls([(40, 2, 3), (7, 9, 800)]))
        self.assertEqual((5, 700), self.of_walls([(1, 5, 1), (1, 5, 1), (700, 4, 6)]))

    def of_walls(self, walls):
        floor = Floor(*DRIVE, 1, walls)
        return floor.wide(), floor.offset()

    def test_walls_may_be_alike(self):
        floor = Floor(*DRIVE, 1, [(5, 2, 3)] * 4)
        self.assertEqual([(1, 5, 2, 0, 3)] * 4, floor.boxes(0))


class BoxesTest(unittest.TestCase):
    def test_line(self):
        line = made(Line)
        for place in [-20, -1, 0, 10, 50]:
            self.assertEqual([(2, -4, 12, place, 3)], line.boxes(place))

    def test_wagon(self):
        wagon = made(Wagon)
        for place in [-20, -1, 0, 10, 50]:
            self.assertEqual([(5, place, 6, 0, 9)], wagon.boxes(place))

    def test_trap(self):
        trap = made(Trap)
        for place in [-20, -2, -1]:
            self.assertEqual([(0, 15, 8, 0, 1)], trap.boxes(place))
        for place in [0, 1, 10, 50]:
            self.assertEqual([], trap.boxes(place))

    def test_floor_with_one_wall(self):
        floor = Floor(*DRIVE, 4, [(719, 3, 6)])
        for place in [-20, 0, 10, 50]:
            self.assertEqual([(4, 719 + place, 3, 0, 6)], floor.boxes(place))

    def test_floor_with_four_walls_in_their_order(self):
        floor = made(Floor)
        for place in [-20, 0, 10, 50]:
            wanted = [(9, place, 10, 0, 5), (9, place + 719, 4, 0, 8), (9, place + 3, 12, 0, 1), (9, place + 90, 2, 0, 7)]
            self.assertEqual(wanted, floor.boxes(place))

    def test_at_is_not_counted_round(self):
        floor = Floor("disc", -BILLION, BILLION, 1, 1, 0, 4, [(719, 3, 6)])
        self.assertEqual([(4, BILLION + 719, 3, 0, 6)], floor.boxes(BILLION))
        self.assertEqual([(4, 719 - BILLION, 3, 0, 6)], floor.boxes(-BILLION))

    def test_great_places(self):
        for place in [-BILLION, BILLION]:
            self.assertEqual([(2, -4, 12, place, 3)], beginning(-BILLION, BILLION, 0, Line).boxes(place))
            self.assertEqual([(5, place, 6, 0, 9)], beginning(-BILLION, BILLION, 0, Wagon).boxes(place))

    def test_boxes_are_lists_of_tuples(self):
        for kind in KINDS:
            boxes = made(kind).boxes(-1)
            self.assertIs(list, type(boxes))
            for box in boxes:
                self.assertIs(tuple, type(box))
                self.assertEqual([int] * 5, [type(number) for number in box])


class TakenTest(unittest.TestCase):
    def test_line(self):
        line = made(Line)
        for ahead, place in [(10, 17), (17, 10)]:
            self.assertEqual([(2, -4, 12, 10, 10)], line.taken(ahead, place))
        for ahead, place in [(-20, 50), (50, -20)]:
            self.assertEqual([(2, -4, 12, -20, 73)], line.taken(ahead, place))

    def test_wagon(self):
        wagon = made(Wagon)
        for ahead, place in [(-3, 4), (4, -3)]:
            self.assertEqual([(5, -3, 13, 0, 9)], wagon.taken(ahead, place))
        for ahead, place in [(-20, 50), (50, -20)]:
            self.assertEqual([(5, -20, 76, 0, 9)], wagon.taken(ahead, place))

    def test_floor(self):
        floor = Floor(*DRIVE, 4, [(5, 3, 6), (100, 1, 2)])
        for ahead, place in [(-3, 4), (4, -3)]:
            self.assertEqual([(4, 2, 10, 0, 6), (4, 97, 8, 0, 2)], floor.taken(ahead, place))

    def test_wide_of_a_floor_is_as_it_comes(self):
        floor = Floor("disc", -BILLION, BILLION, 1, 1, 0, 4, [(5, 3, 6)])
        self.assertEqual([(4, 5 - BILLION, 2 * BILLION + 3, 0, 6)], floor.taken(BILLION, -BILLION))

    def test_trap(self):
        trap = made(Trap)
        box = (0, 15, 8, 0, 1)
        for ahead, place in [(-1, 0), (0, -1), (-1, 1), (1, -1), (-20, 50), (-5, -4)]:
            self.assertEqual([box], trap.taken(ahead, place))
        for ahead, place in [(0, 0), (0, 1), (1, 0), (50, 3)]:
            self.assertEqual([], trap.taken(ahead, place))

    def test_of_no_way_at_all(self):
        for kind in KINDS:
            machine = made(kind)
            for place in [-20, -1, 0, 1, 10, 50]:
                self.assertEqual(machine.boxes(place), machine.taken(place, place))


class PlacesTest(unittest.TestCase):
    def test_places_without_the_bounds(self):
        for kind in KINDS:
            machine = made(kind)
            for thing in around(-20, 50):
                need_refused(self, BadNumber, machine.boxes, thing)
                need_refused(self, BadNumber, machine.taken, thing, 10)
                need_refused(self, BadNumber, machine.taken, 10, thing)
                need_refused(self, BadNumber, machine.taken, thing, thing)

    def test_the_bounds_are_the_machines_own(self):
        for kind in KINDS:
            machine = beginning(3, 3, 3, kind)
            self.assertEqual(made(kind).boxes(3), machine.boxes(3))
            for thing in around(3, 3):
                need_refused(self, BadNumber, machine.boxes, thing)
                need_refused(self, BadNumber, machine.taken, 3, thing)

    def test_what_is_refused_changes_nothing(self):
        for kind in KINDS:
            machine = made(kind)
            need_refused(self, BadNumber, machine.boxes, 51)
            need_refused(self, BadNumber, machine.taken, 10, None)
            self.assertEqual(made(kind).words(), machine.words())
            self.assertEqual(made(kind).taken(-20, 50), machine.taken(-20, 50))


class OwnTest(unittest.TestCase):
    """What is told is the asker's own, and nothing hangs on what was handed in."""

    def test_told_lists_may_be_changed(self):
        for kind in KINDS:
            machine = made(kind)
            for act in [lambda: machine.boxes(-1), lambda: machine.taken(-1, 5)]:
                first = act()
                kept = list(first)
                first.clear()
                first.append("other")
                self.assertEqual(kept, act())

    def test_walls_may_be_changed_later(self):
        walls = [(0, 10, 5), (90, 2, 7)]
        floor = Floor(*DRIVE, 3, walls)
        walls[0] = (1, 1, 1)
        walls.append((5, 600, 600))
        self.assertEqual([(3, 10, 10, 0, 5), (3, 100, 2, 0, 7)], floor.boxes(10))
        walls.clear()
        self.assertEqual("floor cloth -20 50 7 3 10 3 0:10:5 90:2:7", floor.words())
        self.assertEqual((10, 90), (floor.wide(), floor.offset()))

    def test_walls_are_not_changed(self):
        walls = list(WALLS)
        floor = Floor(*DRIVE, 3, walls)
        floor.boxes(0).clear()
        floor.taken(0, 5).append(1)
        self.assertEqual(WALLS, walls)

    def test_two_of_one_list_are_apart(self):
        walls = [(0, 10, 5)]
        one = Floor(*DRIVE, 3, walls)
        walls.append((90, 2, 7))
        other = Floor(*DRIVE, 3, walls)
        self.assertEqual((1, 2), (len(one.boxes(0)), len(other.boxes(0))))

    def test_the_same_each_time(self):
        for kind in KINDS:
            machine = made(kind)
            for act in [machine.kind, machine.lane, machine.wide, machine.offset, machine.words]:
                self.assertEqual(act(), act())
            self.assertEqual(machine.taken(-3, 4), machine.taken(-3, 4))


class WrongTest(unittest.TestCase):
    def test_names(self):
        for kind in KINDS:
            for thing in NO_NAMES:
                need_refused(self, BadName, kind, *with_one(told(kind), 0, thing))

    def test_good_names(self):
        for name in ["a", "z", "abcdefgh", "zzzzzzzz", "line"]:
            for kind in KINDS:
                self.assertEqual(name, kind(*with_one(told(kind), 0, name)).name)

    def test_numbers_of_all_machines(self):
        bounds = [(-BILLION, 50), (-20, BILLION), (1, BILLION), (1, BILLION), (-20, 50)]
        for kind in KINDS:
            for at, (least, most) in enumerate(bounds, start=1):
                for thing in around(least, most):
                    need_refused(self, BadNumber, kind, *with_one(told(kind), at, thing))

    def test_numbers_of_each_kind(self):
        for kind in KINDS:
            for at, (least, most) in enumerate(TAIL_BOUNDS[kind], start=len(DRIVE)):
                for thing in around(least, most):
                    need_refused(self, BadNumber, kind, *with_one(told(kind), at, thing))

    def test_bounds_are_let_by(self):
        for kind in KINDS:
            for at, bounds in enumerate(TAIL_BOUNDS[kind], start=len(DRIVE)):
                for number in bounds:
                    row = kind(*with_one(told(kind), at, number)).words().split(" ")
                    self.assertEqual(str(number), row[at + 1])

    def test_a_bad_name_comes_ahead_of_a_bad_number(self):
        for kind in KINDS:
            for at in range(1, len(told(kind))):
                for thing in [None, True, -10 ** 10, 10 ** 10, Odd()]:
                    row = with_one(told(kind), at, thing)
                    need_refused(self, BadNumber, kind, *row)
                    need_refused(self, BadName, kind, *with_one(row, 0, "Cloth"))
                    need_refused(self, BadName, kind, *with_one(row, 0, Odd()))

    def test_everything_wrong(self):
        for kind in KINDS:
            need_refused(self, BadName, kind, *[Odd() for thing in told(kind)])
            need_refused(self, BadNumber, kind, "cloth", *[Odd() for thing in told(kind)[1:]])

    def test_a_least_above_the_greatest(self):
        for kind in KINDS:
            for place in [3, 4, 5]:
                need_refused(self, BadNumber, beginning, 5, 4, place, kind)
            self.assertEqual(4, beginning(4, 4, 4, kind).place)

    def test_a_place_without_the_bounds(self):
        for kind in KINDS:
            for place in [-6, 4, 100]:
                need_refused(self, BadNumber, beginning, -5, 3, place, kind)
            for place in [-5, 0, 3]:
                self.assertEqual(place, beginning(-5, 3, place, kind).place)


class WrongWallsTest(unittest.TestCase):
    def need_bad_walls(self, walls):
        need_refused(self, BadNumber, Floor, *DRIVE, 3, walls)
        need_refused(self, BadName, Floor, "no name", *DRIVE[1:], 3, walls)

    def test_how_many(self):
        self.need_bad_walls([])
        self.need_bad_walls([(0, 1, 1)] * 5)
        for many in [1, 2, 3, 4]:
            self.assertEqual(many, len(Floor(*DRIVE, 3, [(0, 1, 1)] * many).boxes(0)))

    def test_no_list(self):
        for walls in [((0, 1, 1),), (0, 1, 1), {(0, 1, 1)}, {0: (0, 1, 1)}, "0:1:1", 0, 5, 10 ** 30] + NO_NUMBERS:
            self.need_bad_walls(walls)

    def test_no_tuple_of_three(self):
        for wall in [(0, 1), (0, 1, 1, 1), [0, 1, 1], "abc", b"abc", {0, 1, 2}, {0: 1, 1: 1, 2: 1}, 0, 5] + NO_NUMBERS:
            self.need_bad_walls([wall])
            self.need_bad_walls([(0, 1, 1), wall])
            self.need_bad_walls([(0, 1, 1)] * 3 + [wall])

    def test_numbers_of_a_wall(self):
        for at, (least, most) in enumerate([(0, 719), (1, MILLION), (1, MILLION)]):
            for thing in around(least, most):
                wall = tuple(with_one([5, 6, 7], at, thing))
                self.need_bad_walls([wall])
                self.need_bad_walls([wall, (0, 1, 1)])
                self.need_bad_walls([(0, 1, 1), (0, 1, 1), (0, 1, 1), wall])
            for number in [least, most]:
                wall = tuple(with_one([5, 6, 7], at, number))
                self.assertIn(f" {wall[0]}:{wall[1]}:{wall[2]}", Floor(*DRIVE, 3, [wall]).words())

    def test_a_refused_list_is_not_changed(self):
        walls = [(0, 1, 1), (720, 1, 1)]
        self.need_bad_walls(walls)
        self.assertEqual([(0, 1, 1), (720, 1, 1)], walls)


if __name__ == "__main__":
    unittest.main()
