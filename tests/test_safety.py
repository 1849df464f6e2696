"""Points 1, 3 and 11, and the interface of flywright/safety.py."""

import random
import unittest

from flywright.errors import BadNumber, Busy, TooLong, TooNear
from flywright.machines import Floor, Line, Trap, Wagon
from flywright.plans import Back, Way, Ways
from flywright.safety import need_free, stopped
from flywright.sheets import Sheet
from flywright.stage import Stage
from helpers import NO_NUMBERS, need_refused
from live import outcome, plain_near, plain_stop
from plays import some_convoy, some_places, some_sheet, some_stage

NO_TICKS = [-1, -2, -10 ** 30, *NO_NUMBERS]


def wagon(name, place, pace, gain, lane=0, wide=1):
    return Wagon(name, -1000, 1000, pace, gain, place, lane, wide, 1)


def way(stage, *begins, places=None):
    """The way of cues, each told by its tick and moves."""
    ways = Ways(stage, places or [machine.place for machine in stage.machines()])
    for tick, moves in begins:
        ways = ways.adds(Sheet([("cue", moves, [])]), "cue", tick)
    return ways


class Rows(Way):
    """A way that is told by the places at each tick."""

    def __init__(self, stage, rows):
        super().__init__(stage)
        self.rows = rows

    def end(self):
        return len(self.rows) - 1

    def at(self, tick):
        return list(self.rows[min(tick, self.end())])


def near(test, ways, *now):
    """The fields of the refusal."""
    refusal = need_refused(test, TooNear, need_free, ways, *now)
    return refusal.tick, refusal.one, refusal.other


def plain(ways, now=0):
    """What a plain look at every tick and every stop from now on tells."""
    ticks = range(now, max(now, ways.end()) + 1)
    rows = [ways.at(tick) for tick in ticks]
    steps = [[ways.step_of(at, tick) for at in range(len(rows[0]))] for tick in ticks]
    return plain_near(ways.stage, rows, steps, now)


class StoppedTest(unittest.TestCase):
    def setUp(self):
        # One that brakes long, one that brakes at once and one that rests, in unlike lanes.
        self.stage = Stage(5, {}, [wagon("long", 0, 4, 1, 0), wagon("soon", 0, 9, 9, 1), wagon("rest", 7, 1, 1, 2)])
        self.ways = way(self.stage, (1, [("long", 20, 0), ("soon", -27, 1)]))

    def test_at_each_tick(self):
        # Steps of the first one: 1, 2, 3, 4, 4, 3, 2, 1 in the ticks 2 to 9; three of -9 of the second one.
        longs = [0, 0, 1, 3, 6, 10, 14, 17, 19, 20]
        behind = {3: [1], 4: [2, 1], 5: [3, 2, 1], 6: [3, 2, 1], 7: [2, 1], 8: [1]}
        soons = [0, 0, 0, -9, -18, -27]
        self.assertEqual(longs, [self.ways.at(tick)[0] for tick in range(10)])
        for tick in range(13):
            place, other = longs[min(tick, 9)], soons[min(tick, 5)]
            rows = [[place, other, 7]]
            for step in behind.get(tick, []):
                rows.append([rows[-1][0] + step, other, 7])
            self.assertEqual(rows, stopped(self.ways, tick), tick)

    def test_downwards(self):
        ways = way(self.stage, (0, [("long", -20, 0)]))
        self.assertEqual([[-10, 0, 7], [-13, 0, 7], [-15, 0, 7], [-16, 0, 7]], stopped(ways, 4))

    def test_who_brakes_at_once_waits(self):
        stage = Stage(5, {}, [wagon("a", 0, 9, 9, 0), wagon("b", 0, 9, 2, 1), wagon("c", 0, 9, 1, 2)])
        ways = way(stage, (0, [("a", 45, 0), ("b", 45, 0), ("c", -45, 0)]))
        self.assertEqual([[[36, 20, -10], [36, 26, -13], [36, 30, -15], [36, 32, -16]]], [stopped(ways, 4)])

    def test_no_step_in_it(self):
        waiting = way(self.stage, (0, [("long", 3, 0)]), (20, [("long", 9, 0)]))
        for ways, ticks in [(self.ways, [0, 1, 10, 50, 10 ** 9]), (waiting, [0, 4, 5, 19, 20]),
                            (Ways(self.stage, [1, 2, 3]), [0, 1, 9])]:
            for tick in ticks:
                self.assertEqual([ways.at(tick)], stopped(ways, tick))

    def test_of_a_book(self):
        book = [self.ways.at(tick) for tick in range(10)]
        back = Back(self.stage, book)
        self.assertEqual([[20, -27, 7]], stopped(back, 0))
        self.assertEqual([[14, -27, 7], [12, -27, 7], [11, -27, 7]], stopped(back, 3))
        self.assertEqual([[6, -18, 7], [3, -18, 7], [1, -18, 7], [0, -18, 7]], stopped(back, 5))
        for tick in [8, 9, 10]:
            self.assertEqual([[0, 0, 7]], stopped(back, tick))

    def test_where_the_move_would_have_ended_at_the_latest(self):
        for distance in range(1, 60):
            for pace, gain in [(1, 1), (4, 1), (9, 2), (7, 3), (50, 4)]:
                ways = way(Stage(1, {}, [wagon("a", 0, pace, gain)]), (0, [("a", distance, 0)]))
                for tick in range(ways.end() + 1):
                    self.assertLessEqual(stopped(ways, tick)[-1][0], distance)

    def test_no_ticks(self):
        for thing in NO_TICKS:
            need_refused(self, BadNumber, stopped, self.ways, thing)
            need_refused(self, BadNumber, stopped, Back(self.stage, [[0, 0, 0]]), thing)

    def test_what_is_told_is_the_askers_own(self):
        wanted = stopped(self.ways, 5)
        rows = stopped(self.ways, 5)
        rows[0].clear()
        rows[1][0] = 99
        rows.pop()
        self.assertEqual(wanted, stopped(self.ways, 5))
        self.assertEqual(wanted[0], self.ways.at(5))
        self.assertEqual([list] * 4, [type(row) for row in wanted])

    def test_against_a_plain_stop(self):
        for seed in range(60):
            ways = some_way(random.Random(seed))
            for tick in range(ways.end() + 3):
                steps = [ways.step_of(at, tick) for at in range(len(ways.at(0)))]
                self.assertEqual(plain_stop(ways.stage, ways.at(tick), steps), stopped(ways, tick))


class FreeTest(unittest.TestCase):
    """Ways that are free or not by themselves."""

    def setUp(self):
        # None brakes behind a stop: each goes by one step a tick, or by one step in all.
        self.stage = Stage(5, {}, [wagon("a", 0, 1, 1), wagon("b", 100, 1, 1), wagon("c", 200, 200, 200)])

    def test_let_by(self):
        self.assertIsNone(need_free(Ways(self.stage, [0, 100, 200])))
        ways = way(self.stage, (0, [("a", 94, 0), ("b", 195 - 1, 9), ("c", 206, 30)]))
        self.assertIsNone(need_free(ways))
        for now in range(ways.end() + 5):
            self.assertIsNone(need_free(ways, now))

    def test_amid_it(self):
        # The gap is 100 - 1 at first; it is 5 at tick 94 and 4 at tick 95.
        ways = way(self.stage, (0, [("a", 94, 0)]))
        self.assertIsNone(need_free(ways))
        ways = way(self.stage, (0, [("a", 97, 0)]))
        for now in range(96):
            self.assertEqual((95, "a", "b"), near(self, ways, now))
        self.assertEqual((96, "a", "b"), near(self, ways, 96))

    def test_at_its_end(self):
        ways = way(self.stage, (0, [("a", 95, 0)]))
        self.assertEqual(95, ways.end())
        for now in [0, 1, 94, 95]:
            self.assertEqual((95, "a", "b"), near(self, ways, now))
        # Behind the end as there: the first tick that is asked about tells.
        for now in [96, 97, 500, 10 ** 9]:
            self.assertEqual((now, "a", "b"), near(self, ways, now))

    def test_at_now(self):
        ways = Ways(self.stage, [95, 100, 200])
        for now in [0, 1, 7]:
            self.assertEqual((now, "a", "b"), near(self, ways, now))
        # By the places alone: what was swept in the tick of now doesn't count, if it is free there.
        leaves = way(self.stage, (0, [("a", 90, 0)]), places=[96, 100, 200])
        self.assertEqual((0, "a", "b"), near(self, leaves))
        self.assertEqual((1, "a", "b"), near(self, leaves, 1))
        self.assertEqual([94, 100, 200], leaves.at(2))
        self.assertIsNone(need_free(leaves, 2))
        self.assertIsNone(need_free(leaves, 9))

    def test_what_is_swept(self):
        # In one step it goes from one side to the other one of b.
        ways = way(self.stage, (3, [("c", 50, 0)]))
        self.assertEqual([[0, 100, 200], [0, 100, 50]], [ways.at(3), ways.at(4)])
        self.assertIsNone(self.stage.first_near(ways.at(4)))
        for now in range(4):
            self.assertEqual((4, "b", "c"), near(self, ways, now))
        self.assertIsNone(need_free(ways, 4))
        # Likewise a line, a floor and a trap.
        stage = Stage(5, {1: 60}, [
            Line("drop", -100, 100, 200, 200, 80, 0, 0, 1, 1), wagon("cart", 0, 1, 1),
            Floor("disc", 0, 360, 360, 360, 0, 1, [(0, 1, 1)]), Line("pole", 0, 1, 1, 1, 0, 1, 30, 1, 1),
            Trap("hole", -9, 9, 20, 20, 9, 2, 0, 1), wagon("box", 0, 1, 1, 2),
        ])
        self.assertEqual((1, "drop", "cart"), near(self, way(stage, (0, [("drop", -80, 0)]))))
        self.assertEqual((1, "disc", "pole"), near(self, way(stage, (0, [("disc", 59, 0)]))))
        self.assertEqual((1, "hole", "box"), near(self, way(stage, (0, [("hole", -1, 0)]))))
        self.assertIsNone(need_free(way(stage, (0, [("drop", 10, 0), ("disc", 20, 0), ("hole", 0, 0)]))))

    def test_the_first_two_in_order(self):
        stage = Stage(5, {}, [wagon("d", 0, 1, 1), wagon("c", 100, 1, 1), wagon("b", 200, 1, 1), wagon("a", 300, 1, 1)])
        both = way(stage, (0, [("a", 300, 0), ("b", 199, 0)]), places=[0, 5, 200, 300])
        self.assertEqual((0, "d", "c"), near(self, both))
        self.assertEqual((0, "c", "a"), near(self, Ways(stage, [0, 100, 200, 104])))
        self.assertEqual((0, "d", "b"), near(self, Ways(stage, [0, 300, 3, 2])))
        self.assertEqual((0, "c", "b"), near(self, Ways(stage, [0, 100, 103, 97])))
        # In one tick two pairs come too near at once.
        ways = way(stage, (0, [("a", 200, 0), ("d", 100, 0)]))
        self.assertEqual((95, "d", "c"), near(self, ways))
        # An earlier tick tells ahead of an earlier machine.
        ways = way(stage, (0, [("a", 200, 0), ("d", 100, 1)]))
        self.assertEqual((95, "b", "a"), near(self, ways))

    def test_no_ticks(self):
        for ways in [Ways(self.stage, [0, 100, 200]), Ways(self.stage, [0, 0, 0]), Back(self.stage, [[0, 100, 200]])]:
            for thing in NO_TICKS:
                need_refused(self, BadNumber, need_free, ways, thing)

    def test_nothing_is_changed(self):
        ways = way(self.stage, (0, [("a", 97, 0)]))
        rows = [ways.at(tick) for tick in range(100)]
        near(self, ways)
        self.assertEqual(rows, [ways.at(tick) for tick in range(100)])
        self.assertEqual((95, "a", "b"), near(self, ways))


class StopsTest(unittest.TestCase):
    """Ways that are free by themselves, but not behind each stop."""

    def setUp(self):
        # The first one brakes long; the second one, ahead of it in the lane, brakes at once.
        self.stage = Stage(5, {}, [wagon("tail", 0, 12, 1), wagon("front", 7, 10, 10)])
        self.ways = way(self.stage, (0, [("tail", 190, 0), ("front", 307, 0)]))

    def test_one_that_brakes_long_behind_one_that_brakes_at_once(self):
        # Stopped at tick 10 the tail comes to 100 and the front is at 107; at tick 11 these are 121 and 117.
        self.assertEqual([[55, 107], [100, 107]], stopped(self.ways, 10)[::9])
        self.assertEqual([[66, 117], [121, 117]], stopped(self.ways, 11)[::10])
        # The tick is that of the stop, not that in which they come too near.
        for now in range(12):
            self.assertEqual((11, "tail", "front"), near(self, self.ways, now))

    def test_from_a_later_tick_on(self):
        last = max(tick for tick in range(self.ways.end() + 1) if self.is_near_behind(tick))
        self.assertLess(12, last)
        for now in range(11, last + 1):
            first = min(tick for tick in range(now, last + 1) if self.is_near_behind(tick))
            self.assertEqual((first, "tail", "front"), near(self, self.ways, now))
        for now in range(last + 1, self.ways.end() + 3):
            self.assertIsNone(need_free(self.ways, now))

    def is_near_behind(self, tick):
        return any(self.stage.first_near(row) for row in stopped(self.ways, tick))

    def test_let_by(self):
        stage = Stage(5, {}, [wagon("tail", 0, 12, 1), wagon("front", 50, 10, 10)])
        self.assertIsNone(need_free(way(stage, (0, [("tail", 190, 0), ("front", 306, 0)]))))
        # Who goes ahead may brake as long as it likes.
        stage = Stage(5, {}, [wagon("tail", 7, 12, 1), wagon("front", 0, 10, 10)])
        self.assertIsNone(need_free(way(stage, (0, [("tail", 197, 0), ("front", 180, 12)]))))

    def test_the_way_itself_tells_first(self):
        # A stop at tick 11 leads to it too, but the way by itself is not free at a later tick.
        ways = way(self.stage, (0, [("tail", 190, 0), ("front", 157, 0)]))
        tick, one, other = near(self, ways)
        self.assertLess(11, tick)
        self.assertEqual(self.stage.first_near(ways.at(tick), ways.at(tick - 1)), (one, other))
        self.assertIsNone(self.stage.first_near(ways.at(tick - 1), ways.at(tick - 2)))

    def test_in_the_first_tick_behind_the_stop(self):
        # Behind a stop the long one comes near to the last one ahead of the second one.
        stage = Stage(1, {}, [wagon("long", 0, 20, 1), wagon("far", 200, 10, 10), wagon("near", 120, 10, 10)])
        ways = way(stage, (0, [("long", 400, 0), ("far", 700, 0), ("near", 620, 0)]))
        tick, one, other = near(self, ways)
        rows = stopped(ways, tick)
        pairs = [stage.first_near(row, ahead) for ahead, row in zip(rows, rows[1:])]
        self.assertEqual(("long", "near"), (one, other))
        self.assertEqual((one, other), [pair for pair in pairs if pair][0])
        self.assertEqual(plain(ways), (tick, one, other))

    def test_what_is_swept_behind_a_stop(self):
        # Stopped at tick 5 it brakes by 80, 60, 40 and 20 from 300 on, over the other one, which stands at 415.
        stage = Stage(1, {}, [wagon("a", 0, 100, 20), wagon("b", 145, 90, 90)])
        ways = way(stage, (0, [("a", 500, 0), ("b", 685, 2)]))
        wanted = [[300, 415], [380, 415], [440, 415], [480, 415], [500, 415]]
        self.assertEqual(wanted, stopped(ways, 5))
        self.assertEqual([None] * 5, [stage.first_near(row) for row in wanted])
        self.assertEqual((5, "a", "b"), near(self, ways))
        self.assertIsNone(need_free(ways, 6))

    def test_of_a_book(self):
        # Forwards the one that brakes at once comes behind the other one, backwards it goes ahead of it.
        stage = Stage(5, {}, [wagon("tail", 192, 12, 1), wagon("front", 307, 10, 10)])
        ways = way(stage, (0, [("tail", 0, 3), ("front", 7, 0)]))
        self.assertEqual((30, [0, 7]), (ways.end(), ways.at(30)))
        self.assertIsNone(need_free(ways))
        back = Back(stage, [ways.at(tick) for tick in range(31)])
        for now in [0, 1, 11]:
            self.assertEqual((11, "tail", "front"), near(self, back, now))
        self.assertIsNone(need_free(back, 30))

    def test_any_way(self):
        stage = Stage(5, {}, [wagon("a", 0, 9, 1), wagon("b", 40, 9, 1)])
        rows = [[0, 40], [10, 40], [20, 40], [20, 30]]
        # By itself it is free, with 9 between them at its end; a stop at tick 1 leads on by 9, 8 and so on.
        self.assertEqual((1, "a", "b"), near(self, Rows(stage, rows)))
        self.assertEqual([[10, 40], [19, 40], [27, 40]], stopped(Rows(stage, rows), 1)[:3])
        # At tick 0 no step was taken, whatever came to these places.
        self.assertEqual([[0, 40]], stopped(Rows(stage, rows), 0))
        # A stop at the very last tick counts too.
        self.assertEqual((1, "a", "b"), near(self, Rows(stage, [[0, 20], [9, 20]])))
        self.assertIsNone(need_free(Rows(stage, [[0, 20], [1, 20]])))

    def test_beyond_the_bounds(self):
        # Of a book that no machine can have gone, what is behind a stop is told all the same.
        stage = Stage(5, {}, [Wagon("a", 0, 30, 9, 1, 0, 0, 1, 1), Wagon("b", 0, 90, 9, 1, 90, 0, 1, 1)])
        back = Back(stage, [[30, 90], [20, 90]])
        self.assertEqual([30 + 45, 90], stopped(back, 1)[-1])
        self.assertIsNone(need_free(back))
        self.assertEqual((1, "a", "b"), near(self, Back(stage, [[30, 80], [20, 80]])))


def outcome_of(ways, *now):
    """As plain tells it: the fields of a refusal, or None."""
    result = outcome(need_free, ways, *now)
    return None if result == "done" else result[1:]


def some_way(chance):
    stage = some_stage(chance)
    told = some_sheet(chance, stage)
    places = some_places(chance, stage) if chance.randint(0, 1) else [machine.place for machine in stage.machines()]
    ways = Ways(stage, places)
    for each in range(chance.randint(1, 4)):
        try:
            ways = ways.adds(told, chance.choice(told.names()), chance.randint(0, 20))
        except (Busy, TooLong):
            continue
    return ways


class PlainTest(unittest.TestCase):
    """Held against a plain look at every tick and every stop."""

    def need_like(self, ways, now, met):
        wanted = plain(ways, now)
        self.assertEqual(wanted, outcome_of(ways, now))
        if wanted is None:
            met["free"] += 1
        elif any(ways.stage.first_near(ways.at(tick)) for tick in range(now, max(now, ways.end()) + 1)):
            met["by itself"] += 1
        else:
            met["by a stop or swept"] += 1

    def need_all_like(self, ways, chance, met):
        back = Back(ways.stage, [ways.at(tick) for tick in range(ways.end() + 1)])
        for each in [ways, back]:
            for now in [0, chance.randint(0, each.end()), each.end(), each.end() + chance.randint(0, 3)]:
                self.need_like(each, now, met)

    def test_ways_by_chance(self):
        met = {"free": 0, "by itself": 0, "by a stop or swept": 0}
        for seed in range(150):
            chance = random.Random(seed)
            self.need_all_like(some_way(chance), chance, met)
        self.assertLess(50, min(met["free"], met["by itself"]), met)

    def test_convoys_by_chance(self):
        met = {"free": 0, "by itself": 0, "by a stop or swept": 0}
        for seed in range(150):
            chance = random.Random(seed)
            stage, told = some_convoy(chance)
            self.need_all_like(way(stage).adds(told, "forth", 0), chance, met)
        for result in met:
            self.assertLess(20, met[result], met)


if __name__ == "__main__":
    unittest.main()
