"""Points 1, 4 to 7, as far as they tell of a stage, and the interface of flywright/stage.py."""

import itertools
import random
import unittest

from cells import Plain, plain_first, plain_near
from flywright.errors import BadName, BadNumber, BadStage
from flywright.machines import Machine
from flywright.stage import Stage
from helpers import BILLION, NO_NAMES, NO_NUMBERS, Odd, around, floor, line, need_refused, trap, wagon, with_one

ROOM = 5
RING = 40
GAPS = [0, 1, ROOM - 1, ROOM, ROOM + 1]
KINDS = ["line", "wagon", "trap", "floor"]


def standing(kind, name, turn, lane, at, wide, tall=2):
    """A machine that can be brought to an at, and begins where it is near to none of another turn."""
    if kind == "line":
        return line(name, 1000 * turn, lane, at, wide, tall)
    if kind == "wagon":
        return wagon(name, 20 * turn, lane, wide, tall)
    if kind == "floor":
        return floor(name, 20 * turn, lane, [(0, wide, tall)])
    return trap(name, 0, lane, at, wide)


def place_at(kind, at):
    """The place that brings such a machine to an at, with its box on the ground."""
    return {"line": 0, "wagon": at, "floor": at, "trap": -1}[kind]


def need_near(test, stage, one, other, place, goal, wanted):
    """That two machines are too near, or not, either way round and in a list of both."""
    test.assertIs(wanted, stage.is_near(one, other, place, goal))
    test.assertIs(wanted, stage.is_near(other, one, goal, place))
    pair = (one, other) if wanted else None
    test.assertEqual(pair, stage.first_near([place, goal]))


class AlongTest(unittest.TestCase):
    """Gaps along a lane, with both boxes on the ground."""

    def need_gap(self, rings, kinds, lanes, ats, wanted):
        one = standing(kinds[0], "a", 1, lanes[0], ats[0], 4)
        other = standing(kinds[1], "b", 2, lanes[1], ats[1], 3)
        stage = Stage(ROOM, rings, [one, other])
        places = [place_at(kind, at) for kind, at in zip(kinds, ats)]
        need_near(self, stage, "a", "b", *places, wanted)

    def test_in_one_straight_lane(self):
        for kinds in itertools.product(KINDS[:3], repeat=2):
            never = kinds == ("trap", "trap")
            for begin, gap in itertools.product([-500, 0, 7], GAPS):
                wanted = gap < ROOM and not never
                self.need_gap({}, kinds, [0, 0], [begin, begin + 4 + gap], wanted)
                self.need_gap({}, kinds, [0, 0], [begin, begin - 3 - gap], wanted)
                self.need_gap({1: RING}, kinds, [0, 0], [begin, begin + RING], False)

    def test_in_one_ring(self):
        rounds = [0, RING, -RING, 25 * 10 ** 6 * RING - RING, RING - 25 * 10 ** 6 * RING]
        for kinds in itertools.product(KINDS, repeat=2):
            never = kinds == ("trap", "trap")
            for begin, gap in itertools.product([0, 1, 38, -2] + rounds, GAPS):
                wanted = gap < ROOM and not never
                self.need_gap({3: RING}, kinds, [3, 3], [begin, begin + 4 + gap], wanted)
                self.need_gap({3: RING}, kinds, [3, 3], [begin, begin - 3 - gap], wanted)

    def test_places_many_rounds_apart(self):
        for kinds in itertools.product(KINDS, repeat=2):
            never = kinds == ("trap", "trap")
            for far, gap in itertools.product([-8 * RING, 8 * RING, 10 ** 6 * RING, -10 ** 6 * RING], GAPS):
                self.need_gap({9: RING}, kinds, [9, 9], [0, far + 4 + gap], gap < ROOM and not never)

    def test_the_lesser_way_round(self):
        # 20 cells are left in the ring beside both boxes: one way has so many between them, the other way the rest.
        for way in range(21):
            wanted = way < ROOM or 20 - way < ROOM
            one = wagon("a", 0, 0, 4)
            other = wagon("b", 14, 0, 3)
            need_near(self, Stage(ROOM, {0: 27}, [one, other]), "a", "b", 0, 4 + way, wanted)
            need_near(self, Stage(ROOM, {0: 27}, [other, one]), "b", "a", 4 + way, 0, wanted)

    def test_in_two_lanes(self):
        for kinds in itertools.product(KINDS[:3], repeat=2):
            self.need_gap({}, kinds, [0, 1], [0, 0], False)
        for kinds in itertools.product(KINDS, repeat=2):
            self.need_gap({4: RING, 5: RING}, kinds, [4, 5], [0, 0], False)

    def test_boxes_that_reach_round_the_end(self):
        for kind in KINDS:
            # The wall takes the last two and the first three cells of the ring.
            disc = floor("a", 17, 2, [(RING - 2, 5, 2)])
            for gap in GAPS:
                for at in [3 + gap, RING - 2 - 3 - gap, 3 + gap + RING, -5 - gap]:
                    other = standing(kind, "b", 2, 2, at, 3)
                    stage = Stage(ROOM, {2: RING}, [disc, other])
                    for place in [0, RING, -RING, 3 * RING]:
                        need_near(self, stage, "a", "b", place, place_at(kind, at), gap < ROOM)

    def test_as_wide_as_the_ring(self):
        for at in [0, 1, 20, 39, 40, -BILLION, BILLION]:
            for other in [wagon("b", 0, 7, RING, 2), floor("b", 0, 7, [(39, RING, 2)])]:
                stage = Stage(ROOM, {7: RING}, [line("a", 100, 7, at, 1, 2), other])
                for place in [0, 1, 39, 40, -77, BILLION]:
                    need_near(self, stage, "a", "b", 2 + ROOM - 1, place, True)
                    need_near(self, stage, "a", "b", 2 + ROOM, place, False)

    def test_each_wall_counts(self):
        disc = floor("a", 0, 0, [(0, 1, 1), (10, 1, 1), (20, 1, 1), (30, 1, 1)])
        stage = Stage(1, {0: RING}, [disc, wagon("b", 5, 0)])
        for place, goal in itertools.product(range(-3, 45), repeat=2):
            # Boxes side by side have no gap, as if one were in the other.
            need_near(self, stage, "a", "b", place, goal, (goal - place) % 10 in (9, 0, 1))

    def test_each_room(self):
        for room in [1, 2, 999, 1000]:
            stage = Stage(room, {}, [wagon("a", 0), wagon("b", 2000)])
            for gap in [0, room - 1, room, room + 1]:
                need_near(self, stage, "a", "b", 0, 1 + gap, gap < room)
                need_near(self, stage, "a", "b", 0, -1 - gap, gap < room)
            self.assertIs(True, stage.is_near("a", "b", 0, 0))


class HeightTest(unittest.TestCase):
    """Gaps in height, with one box above the other."""

    def test_two_lines(self):
        for rings in [{}, {0: RING}]:
            stage = Stage(ROOM, rings, [line("a", 1000, tall=4), line("b", 2000, tall=3)])
            for low, gap in itertools.product([-BILLION + 100, -3, 0, BILLION - 100], GAPS):
                need_near(self, stage, "a", "b", low, low + 4 + gap, gap < ROOM)
                need_near(self, stage, "a", "b", low, low - 3 - gap, gap < ROOM)

    def test_height_is_never_counted_round(self):
        stage = Stage(ROOM, {0: 8}, [line("a", 1000), line("b", 2000)])
        need_near(self, stage, "a", "b", 0, 8, False)

    def test_a_line_above_and_below_the_others(self):
        for kind in ["wagon", "trap", "floor"]:
            tall = 1 if kind == "trap" else 6
            for rings in [{}, {0: RING}]:
                if kind == "floor" and not rings:
                    continue
                other = standing(kind, "b", 0, 0, 0, 3, tall)
                stage = Stage(ROOM, rings, [line("a", 1000, tall=2), other])
                for gap in GAPS:
                    need_near(self, stage, "a", "b", tall + gap, place_at(kind, 0), gap < ROOM)
                    need_near(self, stage, "a", "b", -2 - gap, place_at(kind, 0), gap < ROOM)

    def test_both_gaps_must_be_less(self):
        for along, height in itertools.product(GAPS, repeat=2):
            stage = Stage(ROOM, {}, [line("a", 1000, at=0, wide=4), line("b", 2000, at=4 + along)])
            need_near(self, stage, "a", "b", 0, 1 + height, along < ROOM and height < ROOM)


class TrapTest(unittest.TestCase):
    def test_below_at_and_above_0(self):
        for kind in ["line", "wagon", "floor"]:
            other = standing(kind, "a", 1, 6, 0, 1)
            stage = Stage(ROOM, {6: RING}, [other, trap("b", 0, 6)])
            for place, wanted in [(-1, True), (-BILLION, True), (0, False), (1, False), (BILLION, False)]:
                need_near(self, stage, "a", "b", place_at(kind, 0), place, wanted)

    def test_two_traps_never(self):
        stage = Stage(1000, {}, [trap("a", -1), trap("b", -1)])
        for place, goal in itertools.product([-1, 0, 1], repeat=2):
            need_near(self, stage, "a", "b", place, goal, False)
        self.assertIsNone(stage.first_near([-1, -1], [0, 0]))


def some_plain(chance, name, rings):
    """A small machine by chance, that can be in its lane."""
    lane = chance.choice([0, 1])
    length = rings.get(lane, 8)
    kind = chance.choice(KINDS if lane in rings else KINDS[:3])
    walls = []
    for turn in range(chance.randint(1, 3)):
        walls.append((chance.randint(0, length - 1), chance.randint(1, 3), chance.randint(1, 3)))
    wide = length if chance.randint(0, 9) == 0 else chance.randint(1, 3)
    sizes = {"at": chance.randint(-15, 15), "wide": wide, "tall": chance.randint(1, 3), "walls": walls}
    return Plain(kind, name, some_place(chance, kind), lane, **sizes)


def some_place(chance, kind):
    return chance.choice([-1, 0, 1]) if kind == "trap" else chance.randint(-9, 12)


class PlainCountTest(unittest.TestCase):
    """All held against a plain count, cell by cell."""

    def some_stages(self, seed, tries, many):
        """Stages by chance; of those that are none it is asked that they are refused."""
        chance = random.Random(seed)
        refused = 0
        for turn in range(tries):
            rings = chance.choice([{}, {0: 8}, {0: 12}, {0: 9, 1: 17}])
            room = chance.choice([1, 1, 2, 3])
            plains = [some_plain(chance, "abcdefgh"[at], rings) for at in range(chance.choice(many))]
            machines = [plain.machine() for plain in plains]
            begin = [plain.place for plain in plains]
            if plain_first(room, rings, plains, begin, begin) is None:
                yield chance, room, rings, plains, Stage(room, rings, machines)
            else:
                refused += 1
                need_refused(self, BadStage, Stage, room, rings, machines)
        self.assertGreater(refused, tries // 20)

    def test_is_near(self):
        told = []
        for chance, room, rings, plains, stage in self.some_stages(1, 3000, [2]):
            one, other = plains
            for turn in range(6):
                place, goal = some_place(chance, one.kind), some_place(chance, other.kind)
                wanted = plain_near(room, rings, one, other, [place] * 2, [goal] * 2)
                self.assertIs(wanted, stage.is_near("a", "b", place, goal))
                self.assertIs(wanted, stage.is_near("b", "a", goal, place))
                told.append(wanted)
        self.assertGreater(min(told.count(True), told.count(False)), 300)

    def test_first_near(self):
        told = []
        for chance, room, rings, plains, stage in self.some_stages(2, 1500, [1, 2, 3, 3, 4, 8]):
            for turn in range(4):
                places = [some_place(chance, plain.kind) for plain in plains]
                wanted = plain_first(room, rings, plains, places, places)
                self.assertEqual(wanted, stage.first_near(places))
                self.assertEqual(wanted, stage.first_near(places, None))
                self.assertEqual(wanted, stage.first_near(places, places))
                told.append(wanted)
        self.assertGreater(min(told.count(None), len(told) - told.count(None)), 150)

    def test_first_near_in_a_tick(self):
        told = []
        for chance, room, rings, plains, stage in self.some_stages(3, 1500, [1, 2, 2, 3, 5]):
            for turn in range(3):
                places = [some_place(chance, plain.kind) for plain in plains]
                ahead = [max(-60, place + chance.randint(-4, 4)) for place in places]
                wanted = plain_first(room, rings, plains, ahead, places)
                self.assertEqual(wanted, stage.first_near(places, ahead))
                self.assertEqual(wanted, stage.first_near(ahead, places))
                told.append(wanted)
        self.assertGreater(min(told.count(None), len(told) - told.count(None)), 100)


class FirstNearTest(unittest.TestCase):
    def wagons(self, many):
        """A stage of wagons in one straight lane, each far from all others."""
        machines = [wagon("abcdefgh"[at], 100 * at, least=-1000, greatest=1000) for at in range(many)]
        return Stage(ROOM, {}, machines)

    def test_none(self):
        for many in range(1, 9):
            stage = self.wagons(many)
            self.assertIsNone(stage.first_near([100 * at for at in range(many)]))
            self.assertIsNone(stage.first_near([-100 * at for at in range(many)], [-100 * at for at in range(many)]))

    def test_each_two_of_eight(self):
        for many in range(2, 9):
            stage = self.wagons(many)
            for one, other in itertools.combinations(range(many), 2):
                places = [100 * at for at in range(many)]
                places[one] = places[other] + ROOM
                pair = stage.first_near(places)
                self.assertEqual(("abcdefgh"[one], "abcdefgh"[other]), pair)
                self.assertIs(tuple, type(pair))

    def test_the_first_one_and_the_first_other(self):
        stage = self.wagons(5)
        self.assertEqual(("a", "e"), stage.first_near([400, 200, 200, 200, 400]))
        self.assertEqual(("a", "c"), stage.first_near([0, 100, 0, 0, 0]))
        self.assertEqual(("b", "d"), stage.first_near([0, 100, 200, 100, 200]))
        self.assertEqual(("a", "b"), stage.first_near([0, 0, 0, 0, 0]))
        self.assertEqual(("d", "e"), stage.first_near([0, 100, 200, 300, 300]))
        # b is near to a and to c, which are not near to each other.
        self.assertEqual(("a", "b"), stage.first_near([0, 4, 8, 300, 400]))

    def test_what_is_swept_by_wagons(self):
        stage = Stage(ROOM, {}, [wagon("a", 0, wide=2), wagon("b", 100)])
        for ahead, place in [(0, 50), (50, 0)]:
            for gap in GAPS:
                wanted = ("a", "b") if gap < ROOM else None
                self.assertEqual(wanted, stage.first_near([place, 52 + gap], [ahead, 52 + gap]))
                self.assertEqual(wanted, stage.first_near([place, -1 - gap], [ahead, -1 - gap]))
        # Each goes through the other: at neither tick are they near.
        self.assertEqual(("a", "b"), stage.first_near([0, 100], [100, 0]))
        self.assertIsNone(stage.first_near([0, 100], [0, 100]))

    def test_what_is_swept_by_lines(self):
        stage = Stage(ROOM, {}, [line("a", 1000, tall=2), wagon("b", 0, tall=3)])
        for ahead, place in [(40, 90), (90, 40)]:
            self.assertIsNone(stage.first_near([place, 0], [ahead, 0]))
        for ahead, place in [(3 + ROOM, 90), (90, 3 + ROOM)]:
            self.assertIsNone(stage.first_near([place, 0], [ahead, 0]))
        for ahead, place in [(2 + ROOM, 90), (90, 2 + ROOM), (-50, 90), (90, -50)]:
            self.assertEqual(("a", "b"), stage.first_near([place, 0], [ahead, 0]))
        stage = Stage(ROOM, {}, [line("a", 1000, tall=2), line("b", 2000, tall=3)])
        # The stretch that is swept ends where the greater place and what hangs there end.
        for gap in GAPS:
            wanted = ("a", "b") if gap < ROOM else None
            self.assertEqual(wanted, stage.first_near([0, 92 + gap], [90, 92 + gap]))
            self.assertEqual(wanted, stage.first_near([90, 92 + gap], [0, 92 + gap]))
            self.assertEqual(wanted, stage.first_near([0, -3 - gap], [90, -3 - gap]))

    def test_what_is_swept_by_floors(self):
        for places in [(0, 10), (10, 0)]:
            for turns in [-3 * RING, 0, 3 * RING]:
                ahead, place = [each + turns for each in places]
                stage = Stage(ROOM, {0: RING}, [floor("a", 0, 0, [(35, 2, 1)]), wagon("b", 10, 0)])
                # Cells 35 to 46 are swept, 6 of them round the ring's end.
                for goal in range(RING):
                    gap = 0 if goal <= 6 or goal >= 35 else min(goal - 7, 34 - goal)
                    wanted = ("a", "b") if gap < ROOM else None
                    self.assertEqual(wanted, stage.first_near([place, goal], [ahead, goal]))

    def test_more_than_a_round_is_swept(self):
        stage = Stage(1, {0: 8}, [floor("a", 0, 0), wagon("b", 4, 0)])
        for way in [7, 8, 9, 16, 1000, BILLION]:
            self.assertEqual(("a", "b"), stage.first_near([way, 4], [0, 4]))
            self.assertEqual(("a", "b"), stage.first_near([0, 4], [-way, 4]))
        # Five cells are swept, and just one is left on either side of the wagon.
        self.assertIsNone(stage.first_near([2, 4], [-2, 4]))

    def test_traps_that_go_by_0(self):
        stage = Stage(ROOM, {}, [wagon("a", 0), trap("b", 0, at=3)])
        for ahead, place in [(-1, 0), (0, -1), (-9, 9), (9, -9), (-1, -1)]:
            self.assertEqual(("a", "b"), stage.first_near([0, place], [0, ahead]))
        for ahead, place in [(0, 0), (0, 1), (1, 0), (9, 0)]:
            self.assertIsNone(stage.first_near([0, place], [0, ahead]))

    def test_wrong_lists(self):
        for many in [1, 2, 8]:
            stage = self.wagons(many)
            good = [100 * at for at in range(many)]
            wrong = [good[:-1], good + [900], good * 2 + [0], tuple(good), {place: place for place in good}, set(good)]
            wrong += [str(good), range(many), 0, many, [None] * many, [True] * many]
            wrong += [thing for thing in NO_NUMBERS if thing is not None and not isinstance(thing, list)]
            for at in range(many):
                wrong += [with_one(good, at, thing) for thing in around(-1000, 1000)]
            for places in wrong:
                need_refused(self, BadNumber, stage.first_near, places)
                need_refused(self, BadNumber, stage.first_near, places, good)
                need_refused(self, BadNumber, stage.first_near, good, places)
            for ahead in [None, good]:
                need_refused(self, BadNumber, stage.first_near, None, ahead)
                self.assertIsNone(stage.first_near(good, ahead))

    def test_bounds_are_each_machines_own(self):
        stage = Stage(1, {}, [wagon("a", 0, least=-5, greatest=7), wagon("b", 100, least=50, greatest=100)])
        for places in [[-5, 50], [7, 100]]:
            self.assertIsNone(stage.first_near(places, places))
        for places in [[-6, 50], [8, 50], [0, 49], [0, 101], [50, 0]]:
            need_refused(self, BadNumber, stage.first_near, places)
            need_refused(self, BadNumber, stage.first_near, [0, 50], places)
            need_refused(self, BadNumber, stage.is_near, "a", "b", *places)

    def test_lists_are_not_changed(self):
        stage = self.wagons(3)
        places, ahead = [0, 100, 103], [5, 100, 200]
        self.assertEqual(("b", "c"), stage.first_near(places, ahead))
        self.assertEqual(([0, 100, 103], [5, 100, 200]), (places, ahead))
        places[2] = 500
        self.assertIsNone(stage.first_near(places))
        need_refused(self, BadNumber, stage.first_near, [0, 1, 2, 3])
        self.assertEqual(("b", "c"), stage.first_near([0, 100, 103]))


class IsNearRefusalsTest(unittest.TestCase):
    def setUp(self):
        machines = [wagon("a", 0, least=-5, greatest=5), line("b", 90, least=0, greatest=99), trap("c", 0, least=-3)]
        self.stage = Stage(ROOM, {}, machines + [trap("d", 0, least=-3, greatest=3)])

    def test_names(self):
        for name in ["e", "aa", "", "A", " a"] + NO_NAMES:
            need_refused(self, BadName, self.stage.is_near, name, "b", 0, 0)
            need_refused(self, BadName, self.stage.is_near, "a", name, 0, 0)
            need_refused(self, BadName, self.stage.is_near, name, name, 0, 0)

    def test_both_are_one(self):
        for name in ["a", "b", "c", "d"]:
            need_refused(self, BadName, self.stage.is_near, name, name, 0, 0)

    def test_places(self):
        for thing in around(-5, 5):
            need_refused(self, BadNumber, self.stage.is_near, "a", "b", thing, 0)
            need_refused(self, BadNumber, self.stage.is_near, "b", "a", 0, thing)
        for thing in around(0, 99):
            need_refused(self, BadNumber, self.stage.is_near, "a", "b", 0, thing)
            need_refused(self, BadNumber, self.stage.is_near, "b", "a", thing, 0)
        # Two traps are never too near, but their places are asked for all the same.
        for thing in around(-3, 3):
            need_refused(self, BadNumber, self.stage.is_near, "c", "d", 0, thing)
            need_refused(self, BadNumber, self.stage.is_near, "d", "c", thing, 0)
        for place in [-5, 5]:
            self.assertIs(False, self.stage.is_near("a", "b", place, 99))

    def test_names_come_ahead_of_places(self):
        for thing in [None, True, 6, -6, BILLION, Odd()]:
            for one, other in [("e", "b"), ("a", "e"), ("a", "a"), (None, "b"), ("a", Odd()), (5, 5)]:
                need_refused(self, BadName, self.stage.is_near, one, other, thing, 0)
                need_refused(self, BadName, self.stage.is_near, one, other, 0, thing)
                need_refused(self, BadName, self.stage.is_near, one, other, thing, thing)


class TellingTest(unittest.TestCase):
    def setUp(self):
        self.given = [floor("disc", 0, 4), line("cloth", 50), wagon("cart", 0, 1), trap("hole", 0, 2)]
        self.stage = Stage(7, {4: 60, 0: 8}, list(self.given))

    def test_fields_and_lists(self):
        self.assertEqual(7, self.stage.room)
        self.assertEqual({4: 60, 0: 8}, self.stage.rings())
        self.assertEqual(["disc", "cloth", "cart", "hole"], [machine.name for machine in self.stage.machines()])
        wanted = [machine.words() for machine in self.given]
        self.assertEqual(wanted, [machine.words() for machine in self.stage.machines()])
        self.assertIs(list, type(self.stage.machines()))
        self.assertIs(dict, type(self.stage.rings()))
        self.assertEqual({}, Stage(1, {}, [line("a", 0)]).rings())

    def test_machine(self):
        for machine in self.given:
            self.assertEqual(machine.words(), self.stage.machine(machine.name).words())
            self.assertEqual(machine.kind(), self.stage.machine(machine.name).kind())
        for name in ["a", "dis", "disk", "Disc"] + NO_NAMES:
            need_refused(self, BadName, self.stage.machine, name)

    def test_nothing_hangs_on_what_was_handed_in(self):
        rings, machines = {4: 60, 0: 8}, list(self.given)
        stage = Stage(7, rings, machines)
        rings[4] = 9
        del rings[0]
        rings[7] = 100
        machines.reverse()
        machines.pop()
        self.assertEqual({4: 60, 0: 8}, stage.rings())
        self.assertEqual(["disc", "cloth", "cart", "hole"], [machine.name for machine in stage.machines()])
        self.assertEqual("disc", stage.machine("disc").name)
        self.assertIsNone(stage.first_near([0, 50, 0, 0]))
        machines.clear()
        self.assertEqual(4, len(stage.machines()))

    def test_a_ring_that_is_changed_behind_is_no_other(self):
        rings = {0: 20}
        stage = Stage(3, rings, [wagon("a", 0, 0), wagon("b", 10, 0)])
        rings.clear()
        stage.rings().clear()
        self.assertIs(True, stage.is_near("a", "b", 0, 18))
        self.assertEqual(("a", "b"), stage.first_near([0, 18]))

    def test_what_is_handed_in_is_not_changed(self):
        rings, machines = {4: 60, 0: 8}, list(self.given)
        words = [machine.words() for machine in machines]
        stage = Stage(7, rings, machines)
        stage.rings().clear()
        stage.machines().clear()
        stage.first_near([0, 50, 0, 0], [1, 60, 1, 1])
        self.assertEqual([(4, 60), (0, 8)], list(rings.items()))
        self.assertEqual(self.given, machines)
        self.assertEqual(words, [machine.words() for machine in machines])

    def test_what_is_told_is_the_askers_own(self):
        self.stage.rings()[4] = 8
        self.stage.rings().clear()
        self.stage.machines().reverse()
        self.stage.machines().clear()
        self.test_fields_and_lists()

    def test_what_is_refused_changes_nothing(self):
        need_refused(self, BadName, self.stage.machine, "other")
        need_refused(self, BadName, self.stage.is_near, "disc", "other", 0, 0)
        need_refused(self, BadNumber, self.stage.first_near, [0])
        self.test_fields_and_lists()
        rings, machines = {4: 60, 0: 8, 10: 8}, list(self.given)
        need_refused(self, BadStage, Stage, 7, rings, machines)
        self.assertEqual(({4: 60, 0: 8, 10: 8}, self.given), (rings, machines))


class WrongTest(unittest.TestCase):
    def need_bad(self, room, rings, machines):
        need_refused(self, BadStage, Stage, room, rings, machines)

    def test_room(self):
        for room in [1, 2, 999, 1000]:
            self.assertEqual(room, Stage(room, {}, [line("a", 0)]).room)
        for room in around(1, 1000):
            self.need_bad(room, {}, [line("a", 0)])

    def test_lanes_of_rings(self):
        for lane in [0, 1, 9]:
            self.assertEqual({lane: 50}, Stage(1, {lane: 50}, [line("a", 0)]).rings())
        for thing in around(0, 9):
            try:
                rings = {thing: 50}
            except TypeError:
                continue
            self.need_bad(1, rings, [line("a", 0)])
            self.need_bad(1, {5: 50, thing: 50}, [line("a", 0)])
            self.need_bad(1, {thing: 50, 5: 50}, [line("a", 0)])

    def test_lengths_of_rings(self):
        for length in [8, 9, 719, 720]:
            self.assertEqual({3: length}, Stage(1, {3: length}, [line("a", 0)]).rings())
        for thing in around(8, 720):
            self.need_bad(1, {3: thing}, [line("a", 0)])
            self.need_bad(1, {3: 50, 4: thing}, [line("a", 0)])
            self.need_bad(1, {4: thing, 3: 50}, [line("a", 0)])

    def test_ten_rings(self):
        rings = {lane: 8 + lane for lane in range(10)}
        self.assertEqual(rings, Stage(1, rings, [line("a", 0)]).rings())
        self.need_bad(1, {**rings, 10: 20}, [line("a", 0)])

    def test_rings_that_are_no_dict(self):
        for thing in [[(3, 50)], [], [3], ((3, 50),), {(3, 50)}, {3}, "3 50", 0, 3] + NO_NUMBERS:
            if not isinstance(thing, dict):
                self.need_bad(1, thing, [line("a", 0)])

    def test_how_many_machines(self):
        machines = [line("abcdefghi"[at], 100 * at) for at in range(9)]
        for many in range(1, 9):
            self.assertEqual(many, len(Stage(1, {}, machines[:many]).machines()))
        self.need_bad(1, {}, [])
        self.need_bad(1, {}, machines)

    def test_machines_that_are_no_list(self):
        good = line("a", 0)
        for thing in [good, (good,), {"a": good}, {good}, iter([good]), "a", 0, 1] + NO_NUMBERS:
            self.need_bad(1, {}, thing)

    def test_what_is_no_machine(self):
        bare = Machine("b", 0, 9, 1, 1, 5)
        words = "line b 0 9 1 1 5 0 0 1 1"
        for thing in [bare, words, ("line", "b"), [line("b", 50)], type(line("b", 0)), 5, 0] + NO_NUMBERS:
            self.need_bad(1, {}, [thing])
            self.need_bad(1, {}, [line("a", 0), thing])
            self.need_bad(1, {}, [thing, line("a", 0)])

    def test_a_name_twice(self):
        machines = [line("a", 0), wagon("b", 0, 1), trap("c", 0, 2), floor("d", 0, 3)]
        self.assertEqual(4, len(Stage(1, {3: 50}, machines).machines()))
        for name in ["a", "b", "c", "d"]:
            for other in [line(name, 500), wagon(name, 0, 4), trap(name, 0, 5), floor(name, 0, 6)]:
                self.need_bad(1, {3: 50, 6: 50}, machines + [other])
                self.need_bad(1, {3: 50, 6: 50}, [other] + machines)
        self.need_bad(1, {3: 50}, machines + machines[:1])

    def test_something_wider_than_its_ring(self):
        for length in [8, 31, 720]:
            for wide in [length - 1, length, length + 1, 2 * length, 10 ** 6]:
                walls = [(0, 1, 1), (0, wide, 1), (3, 2, 1)]
                for machine in [line("a", 0, 2, 5, wide), wagon("a", 0, 2, wide), trap("a", 0, 2, 5, wide),
                                trap("a", -1, 2, 5, wide), floor("a", 0, 2, walls), floor("a", 0, 2, walls[1:2])]:
                    if wide > length:
                        self.need_bad(1, {2: length}, [machine])
                        self.need_bad(1, {2: length, 3: 720}, [wagon("b", 0), machine])
                    else:
                        self.assertEqual("a", Stage(1, {2: length}, [machine]).machine("a").name)
                # A straight lane lets it by.
                for machine in [line("a", 0, 2, 5, wide), wagon("a", 0, 2, wide), trap("a", 0, 2, 5, wide)]:
                    self.assertEqual(wide, Stage(1, {1: length}, [machine]).machine("a").wide())

    def test_offsets(self):
        for length in [8, 31, 719]:
            good = floor("a", 0, 2, [(0, 1, 1), (length - 1, 1, 1)])
            self.assertEqual(length - 1, Stage(1, {2: length}, [good]).machine("a").offset())
            for offset in [length, 719]:
                for walls in [[(offset, 1, 1)], [(0, 1, 1), (offset, 1, 1)], [(offset, 1, 1), (0, 1, 1)]]:
                    self.need_bad(1, {2: length}, [floor("a", 0, 2, walls)])
        self.assertEqual(719, Stage(1, {2: 720}, [floor("a", 0, 2, [(719, 1, 1)])]).machine("a").offset())

    def test_a_floor_in_a_straight_lane(self):
        self.need_bad(1, {}, [floor("a", 0, 2)])
        self.need_bad(1, {1: 50, 3: 50}, [floor("a", 0, 2)])
        self.need_bad(1, {1: 50}, [floor("a", 0, 1), floor("b", 0, 2)])
        self.assertEqual(2, Stage(1, {2: 50}, [floor("a", 0, 2)]).machine("a").lane())

    def test_too_near_where_they_begin(self):
        for gap in GAPS:
            pairs = [
                (wagon("a", 3), wagon("b", 4 + gap)), (line("a", 8), line("b", 9 + gap)),
                (line("a", 1 + gap), wagon("b", 0)), (trap("a", -1, at=5), wagon("b", 6 + gap)),
                (trap("a", -1), line("b", 1 + gap)), (floor("a", 3, 1), wagon("b", 4 + gap, 1)),
                (floor("a", 3, 1), floor("b", 2 - gap, 1)), (floor("a", 0, 1, [(17, 2, 1)]), wagon("b", gap - 1, 1)),
            ]
            for pair in pairs:
                for machines in [list(pair), [pair[1], pair[0]], [line("z", 800), *pair], [pair[1], trap("y", 0), pair[0]]]:
                    if gap < ROOM:
                        self.need_bad(ROOM, {1: 20}, machines)
                    else:
                        self.assertEqual(len(machines), len(Stage(ROOM, {1: 20}, machines).machines()))

    def test_shut_traps_are_near_to_none(self):
        for place in [0, 1]:
            self.assertEqual(2, len(Stage(9, {}, [trap("a", place), wagon("b", 0)]).machines()))
        self.need_bad(9, {}, [trap("a", -1), wagon("b", 0)])

    def test_everything_wrong(self):
        self.need_bad(Odd(), Odd(), Odd())
        self.need_bad(None, None, None)
        self.need_bad(0, {10: 7}, [None])


if __name__ == "__main__":
    unittest.main()
