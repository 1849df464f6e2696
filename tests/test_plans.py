"""Points 1, 9 and 10, what 12 tells of a way that goes on, and the interface of flywright/plans.py."""

import random
import unittest

from flywright.errors import BadNumber, Busy, NoCue, TooLong
from flywright.machines import Line
from flywright.plans import Back, Way, Ways
from flywright.sheets import Sheet
from flywright.stage import Stage
from helpers import NO_NAMES, NO_NUMBERS, Odd, around, need_refused
from live import Live, Wrong, outcome, plain_stop
from plays import some_places, some_sheet, some_stage

# In unlike lanes, so that none is near to another; not in the order of their names.
STAGE = Stage(1, {}, [
    Line("zip", -300, 300, 3, 1, 0, 0, 0, 1, 1),
    Line("cart", -300, 300, 1, 1, 0, 1, 0, 1, 1),
    Line("hole", -300, 300, 600, 600, 0, 2, 0, 1, 1),
])
REST = [0, 0, 0]


def sheet(*cues):
    """A sheet of cues, each told by its name, its moves and, if it has any, its followers."""
    return Sheet([(cue[0], cue[1], list(cue[2]) if len(cue) > 2 else []) for cue in cues])


def way(told, *begins, places=REST):
    """The way of cues, each told by its name and tick, added one behind the other."""
    ways = Ways(STAGE, list(places))
    for cue, tick in begins:
        ways = ways.adds(told, cue, tick)
    return ways


# A machine more, whose move calls others together, so that what is wrong comes of one cue.
BELL_STAGE = Stage(1, {}, [*STAGE.machines(), Line("bell", 0, 1, 1, 1, 0, 3, 0, 1, 1)])


def together(told, *begins):
    """The way of one cue that calls up to three others to begin at ticks from 1 on."""
    start = ("start", [("bell", 1, 0)], [(cue, tick - 1) for cue, tick in begins])
    return Ways(BELL_STAGE, [0, 0, 0, 0]).adds(Sheet([start, *told.cues()]), "start", 0)


def rows_of(ways, beyond=0):
    return [ways.at(tick) for tick in range(ways.end() + 1 + beyond)]


def steps_by(ways, tick):
    return [ways.step_of(at, tick) for at in range(len(ways.at(0)))]


def tellings(ways):
    """All that a way tells."""
    ticks = range(ways.end() + 3)
    return ways.end(), rows_of(ways, 2), [steps_by(ways, tick) for tick in ticks], ways.shown()


class WayTest(unittest.TestCase):
    def test_bases(self):
        self.assertEqual((object,), Way.__bases__)
        self.assertEqual((Way,), Ways.__bases__)
        self.assertEqual((Way,), Back.__bases__)
        self.assertNotIsInstance(Back(STAGE, [REST]), Ways)

    def test_stage(self):
        ways = Ways(STAGE, REST)
        later = ways.adds(sheet(("a", [("zip", 9, 0)])), "a", 3)
        for each in [Way(STAGE), ways, later, later.goes_on(4), Back(STAGE, [REST])]:
            self.assertIs(STAGE, each.stage)

    def test_by_itself_all_rest_where_they_begin(self):
        stage = Stage(1, {}, [Line("a", 0, 9, 1, 1, 4, 0, 0, 1, 1), Line("b", 0, 9, 1, 1, 7, 1, 0, 1, 1)])
        self.assertEqual(0, Way(stage).end())
        for tick in [0, 1, 50]:
            self.assertEqual([4, 7], Way(stage).at(tick))
            self.assertEqual([0, 0], steps_by(Way(stage), tick))


class RestTest(unittest.TestCase):
    def test_all_at_rest(self):
        for places in [[0, 0, 0], [300, -300, 7], [-300, 300, -300]]:
            ways = Ways(STAGE, places)
            self.assertEqual((0, []), (ways.end(), ways.shown()))
            for tick in [0, 1, 2, 400, 401, 10 ** 9]:
                self.assertEqual(places, ways.at(tick))
                self.assertEqual([0, 0, 0], steps_by(ways, tick))

    def test_no_places(self):
        for at in range(3):
            for thing in around(-300, 300):
                places = [1, 2, 3]
                places[at] = thing
                need_refused(self, BadNumber, Ways, STAGE, places)
        for thing in [[], [0], [0, 0], [0, 0, 0, 0], (0, 0, 0), "000", {0: 0, 1: 0, 2: 0}, [[0, 0, 0]]] + NO_NUMBERS:
            need_refused(self, BadNumber, Ways, STAGE, thing)
        for thing in [5, -5, 10 ** 30]:
            need_refused(self, BadNumber, Ways, STAGE, thing)

    def test_nothing_hangs_on_what_was_handed_in(self):
        places = [1, 2, 3]
        ways = Ways(STAGE, places)
        later = ways.adds(sheet(("a", [("zip", 9, 0)])), "a", 3)
        wanted = tellings(later)
        places[0] = 50
        places.clear()
        self.assertEqual([1, 2, 3], ways.at(0))
        self.assertEqual(wanted, tellings(later))
        self.assertEqual([1, 2, 3], ways.adds(sheet(("a", [("zip", 9, 0)])), "a", 3).at(0))


class MovesTest(unittest.TestCase):
    def need_zip(self, ways, places, shown):
        """That the first machine goes by these places, while the others rest."""
        self.assertEqual(len(places) - 1, ways.end())
        wanted = [[place, 0, 0] for place in places]
        self.assertEqual(wanted + [wanted[-1]] * 3, rows_of(ways, 3))
        self.assertEqual(wanted[-1], ways.at(10 ** 9))
        steps = [0] + [place - ahead for ahead, place in zip(places, places[1:])] + [0, 0]
        self.assertEqual(steps, [ways.step_of(0, tick) for tick in range(len(places) + 2)])
        self.assertEqual([0] * len(steps), [ways.step_of(1, tick) for tick in range(len(places) + 2)])
        self.assertEqual(shown, ways.shown())

    def test_up_and_down(self):
        told = sheet(("up", [("zip", 10, 0)]), ("down", [("zip", -10, 0)]))
        self.need_zip(way(told, ("up", 0)), [0, 1, 3, 6, 8, 9, 10], [(0, "zip", 10)])
        self.need_zip(way(told, ("down", 0)), [0, -1, -3, -6, -8, -9, -10], [(0, "zip", -10)])

    def test_begun_later_and_with_a_wait(self):
        for tick, wait in [(0, 0), (0, 1), (1, 0), (4, 0), (0, 50), (3, 2), (100, 50)]:
            told = sheet(("up", [("zip", 10, wait)]))
            begin = tick + wait
            self.need_zip(way(told, ("up", tick)), [0] * begin + [0, 1, 3, 6, 8, 9, 10], [(begin, "zip", 10)])

    def test_no_distance(self):
        for tick, wait in [(0, 0), (0, 1), (7, 0), (3, 50)]:
            told = sheet(("stay", [("zip", 0, wait)]))
            self.need_zip(way(told, ("stay", tick)), [0] * (tick + wait + 1), [(tick + wait, "zip", 0)])

    def test_from_other_places(self):
        told = sheet(("up", [("zip", 10, 0)]))
        for begin in [-300, -1, 9, 10, 11, 300]:
            ways = way(told, ("up", 2), places=[begin, 0, 0])
            self.assertEqual([begin, begin, begin], [ways.at(tick)[0] for tick in range(3)])
            self.assertEqual([10, 0, 0], ways.at(ways.end()))
            self.assertEqual([(2, "zip", 10)], ways.shown())

    def test_several_moves(self):
        told = sheet(("all", [("hole", 200, 3), ("cart", -2, 1), ("zip", 3, 0)]))
        ways = way(told, ("all", 0))
        wanted = [[0, 0, 0], [1, 0, 0], [2, -1, 0], [3, -2, 0], [3, -2, 200]]
        self.assertEqual(wanted, rows_of(ways))
        self.assertEqual([(0, "zip", 3), (1, "cart", -2), (3, "hole", 200)], ways.shown())
        self.assertEqual([[0, 0, 0], [1, 0, 0], [1, -1, 0], [1, -1, 0], [0, 0, 200], [0, 0, 0]],
                         [steps_by(ways, tick) for tick in range(6)])

    def test_shown_of_like_ticks_by_the_machines(self):
        told = sheet(("all", [("hole", 0, 2), ("cart", 5, 2), ("zip", 0, 2)]), ("one", [("hole", 9, 0)]))
        self.assertEqual([(3, "zip", 0), (3, "cart", 5), (3, "hole", 0)], way(told, ("all", 1)).shown())
        self.assertEqual([(0, "hole", 9), (3, "zip", 0), (3, "cart", 5), (3, "hole", 0)],
                         way(told, ("all", 1), ("one", 0)).shown())

    def test_six_moves(self):
        names = ["f", "e", "d", "c", "b", "a"]
        stage = Stage(1, {}, [Line(name, 0, 9, 1, 1, 0, lane, 0, 1, 1) for lane, name in enumerate(names)])
        told = sheet(("all", [(name, 2, wait) for wait, name in enumerate(sorted(names))]))
        ways = Ways(stage, [0] * 6).adds(told, "all", 0)
        self.assertEqual([(wait, name, 2) for wait, name in enumerate(sorted(names))], ways.shown())
        self.assertEqual([0, 0, 0, 0, 1, 2], ways.at(2))
        self.assertEqual(7, ways.end())

    def test_no_cue(self):
        told = sheet(("a", [("zip", 5, 0)]))
        ways = way(told, ("a", 0))
        wanted = tellings(ways)
        for name in ["b", "aa", "A", "zip"] + NO_NAMES:
            need_refused(self, NoCue, ways.adds, told, name, 0)
        # Asked ahead of all else that is wrong.
        need_refused(self, NoCue, ways.adds, told, "b", 10 ** 6)
        for thing in [None, 5, "cue a", [("a", [("zip", 5, 0)], [])], Odd()]:
            need_refused(self, NoCue, ways.adds, thing, "a", 0)
        self.assertEqual(wanted, tellings(ways))

    def test_too_long_a_move(self):
        told = sheet(("far", [("cart", 200, 0)]), ("farther", [("cart", 201, 0)]), ("up", [("cart", 1, 0)]),
                     ("down", [("cart", -1, 0)]))
        self.assertEqual(200, way(told, ("far", 0)).end())
        need_refused(self, TooLong, way, told, ("farther", 0))
        self.assertEqual(200, way(told, ("farther", 0), places=[0, 1, 0]).end())
        need_refused(self, TooLong, way, told, ("farther", 0), places=[0, 0, 9])
        # Where the machine stands when the move begins is what counts.
        need_refused(self, TooLong, way, told, ("down", 0), ("far", 6))
        self.assertEqual(206, way(told, ("up", 0), ("farther", 6)).end())

    def test_a_way_stays_as_it_was(self):
        told = sheet(("a", [("zip", 9, 0)]), ("b", [("cart", 3, 5), ("hole", 50, 2)], [("a", 9)]))
        first = Ways(STAGE, REST)
        second = first.adds(told, "a", 0)
        third = second.adds(told, "b", 2)
        wanted = [tellings(each) for each in [first, second, third]]
        need_refused(self, Busy, third.adds, told, "a", 1)
        third.adds(told, "a", 50)
        second.adds(told, "b", 1).goes_on(3)
        third.goes_on(4)
        self.assertEqual(wanted, [tellings(each) for each in [first, second, third]])
        self.assertEqual(tellings(first.adds(told, "a", 0)), tellings(second))

    def test_what_is_told_is_the_askers_own(self):
        told = sheet(("a", [("zip", 9, 0), ("cart", 2, 3)]))
        for ways in [way(told, ("a", 1)), way(told, ("a", 1)).goes_on(3), Ways(STAGE, REST)]:
            wanted = tellings(ways)
            for tick in range(ways.end() + 3):
                ways.at(tick).reverse()
                ways.at(tick)[0] = 77
                ways.at(tick).clear()
            ways.shown().append("other")
            ways.shown().clear()
            self.assertEqual(wanted, tellings(ways))
            self.assertEqual([list, list], [type(ways.at(0)), type(ways.shown())])
            self.assertEqual([tuple] * len(ways.shown()), [type(move) for move in ways.shown()])


class FollowersTest(unittest.TestCase):
    def test_a_chain(self):
        told = sheet(("a", [("cart", 2, 0)], [("b", 0)]), ("b", [("zip", 1, 0)], [("c", 4)]), ("c", [("hole", 5, 3)]))
        ways = way(told, ("a", 1))
        self.assertEqual([(1, "cart", 2), (3, "zip", 1), (11, "hole", 5)], ways.shown())
        self.assertEqual(12, ways.end())
        self.assertEqual([1, 2, 0], ways.at(11))

    def test_behind_the_last_end(self):
        told = sheet(("a", [("cart", 2, 9), ("zip", 10, 0), ("hole", 0, 3)], [("b", 2)]), ("b", [("hole", 5, 0)]))
        ways = way(told, ("a", 0))
        self.assertEqual([(0, "zip", 10), (3, "hole", 0), (9, "cart", 2), (13, "hole", 5)], ways.shown())

    def test_one_that_two_call(self):
        told = sheet(("a", [("cart", 2, 0)], [("c", 0)]), ("b", [("zip", 10, 0)], [("c", 0)]), ("c", [("hole", 5, 0)]))
        ways = way(told, ("a", 0), ("b", 0))
        self.assertEqual([(0, "zip", 10), (0, "cart", 2), (2, "hole", 5), (6, "hole", 5)], ways.shown())
        self.assertEqual("hole", need_refused(self, Busy, way, told, ("a", 4), ("b", 0)).name)

    def test_one_that_is_called_twice(self):
        for waits, ticks in [((0, 1), (2, 3)), ((50, 0), (2, 52)), ((7, 3), (5, 9))]:
            told = sheet(("a", [("cart", 2, 0)], [("b", wait) for wait in waits]), ("b", [("hole", 5, 0)]))
            self.assertEqual([(0, "cart", 2)] + [(tick, "hole", 5) for tick in ticks], way(told, ("a", 0)).shown())
        told = sheet(("a", [("cart", 2, 0)], [("b", 3), ("b", 3)]), ("b", [("hole", 5, 0)]))
        self.assertEqual("hole", need_refused(self, Busy, way, told, ("a", 0)).name)

    def test_no_distance_at_all(self):
        told = sheet(("a", [("cart", 0, 0), ("zip", 0, 0)], [("b", 0), ("c", 1)]), ("b", [("hole", 5, 0)], [("d", 0)]),
                     ("c", [("zip", 1, 0)]), ("d", [("cart", 1, 0)]))
        ways = way(told, ("a", 4))
        wanted = [(4, "zip", 0), (4, "cart", 0), (4, "hole", 5), (5, "zip", 1), (5, "cart", 1)]
        self.assertEqual(wanted, ways.shown())
        self.assertEqual(6, ways.end())
        # Through several turns of one tick.
        told = sheet(("a", [("cart", 0, 0)], [("b", 0)]), ("b", [("hole", 0, 0)], [("c", 0)]), ("c", [("zip", 2, 0)]))
        self.assertEqual([(3, "zip", 2), (3, "cart", 0), (3, "hole", 0)], way(told, ("a", 3)).shown())
        self.assertEqual(5, way(told, ("a", 3)).end())

    def test_cues_of_two_sheets(self):
        one = sheet(("a", [("cart", 2, 0)], [("b", 1)]), ("b", [("hole", 5, 0)]))
        other = sheet(("a", [("zip", 1, 0)], [("b", 2)]), ("b", [("hole", 9, 0)]))
        ways = Ways(STAGE, REST).adds(one, "a", 0).adds(other, "a", 9)
        self.assertEqual([(0, "cart", 2), (3, "hole", 5), (9, "zip", 1), (12, "hole", 9)], ways.shown())
        ways = Ways(STAGE, REST).adds(other, "a", 9).adds(one, "a", 0).goes_on(1)
        self.assertEqual([(0, "cart", 2), (2, "hole", 5), (8, "zip", 1), (11, "hole", 9)], ways.shown())

    def test_added_in_any_order(self):
        told = sheet(("a", [("zip", 10, 0)]), ("b", [("zip", 0, 0)]), ("c", [("cart", 5, 0)], [("d", 20)]),
                     ("d", [("zip", 7, 0)]))
        begins = [("a", 20), ("b", 6), ("a", 0), ("c", 30)]
        wanted = tellings(way(told, *sorted(begins, key=lambda begin: begin[1])))
        self.assertEqual(wanted, tellings(way(told, *begins)))
        self.assertEqual(wanted, tellings(way(told, *begins[::-1])))
        # What is still to come goes from where its machine stands then.
        first = way(told, ("b", 20), places=[5, 0, 0])
        self.assertEqual([5, 0, 0], first.at(20))
        later = first.adds(told, "a", 3)
        self.assertEqual([10, 0, 0], later.at(20))
        self.assertEqual([0, 0, 0], later.at(later.end()))
        self.assertEqual([5, 0, 0], first.at(20))
        self.assertEqual(26, later.end())


class BusyTest(unittest.TestCase):
    def need_busy(self, name, told, *begins):
        refusal = need_refused(self, Busy, together, told, *begins)
        self.assertEqual(name, refusal.name)

    def need_long(self, told, *begins):
        need_refused(self, TooLong, together, told, *begins)

    def need_shown(self, shown, told, *begins):
        self.assertEqual(shown, together(told, *begins).shown()[1:])

    def test_one_that_still_moves(self):
        told = sheet(("up", [("zip", 10, 0)]), ("down", [("zip", 0, 0)]), ("late", [("zip", 0, 4)]))
        for tick in range(6):
            self.assertEqual("zip", need_refused(self, Busy, way, told, ("up", 0), ("down", tick)).name)
        for tick in range(1, 6):
            # The one that begins first isn't that which is added first.
            self.assertEqual("zip", need_refused(self, Busy, way, told, ("down", tick), ("up", 0)).name)
        # At the very tick at which the other one ends it is let by.
        self.assertEqual([(0, "zip", 10), (6, "zip", 0)], way(told, ("up", 0), ("down", 6)).shown())
        self.assertEqual([(0, "zip", 10), (6, "zip", 0)], way(told, ("down", 6), ("up", 0)).shown())
        need_refused(self, Busy, way, told, ("up", 0), ("late", 0))
        need_refused(self, Busy, way, told, ("up", 0), ("late", 1))
        self.assertEqual(12, way(told, ("up", 0), ("late", 2)).end())

    def test_two_in_one_turn(self):
        told = sheet(("a", [("zip", 10, 3)]), ("b", [("zip", 10, 1)]), ("stay", [("zip", 0, 2)]))
        self.need_busy("zip", told, ("a", 5), ("b", 7))
        self.need_busy("zip", told, ("a", 5), ("a", 5))
        self.need_busy("zip", told, ("a", 5), ("stay", 6))
        # Also where neither has a distance.
        self.need_busy("zip", told, ("stay", 6), ("stay", 6))

    def test_one_of_no_distance(self):
        told = sheet(("stay", [("zip", 0, 0)]), ("up", [("zip", 9, 0)]), ("next", [("zip", 0, 0)], [("up", 0)]),
                     ("pause", [("zip", 0, 0)], [("up", 1)]))
        self.need_busy("zip", told, ("stay", 4), ("up", 4))
        self.need_busy("zip", told, ("stay", 4), ("up", 3))
        self.need_shown([(4, "zip", 0), (5, "zip", 9)], told, ("stay", 4), ("up", 5))
        # In a later turn of the same tick too.
        self.need_busy("zip", told, ("next", 4))
        self.need_shown([(4, "zip", 0), (5, "zip", 9)], told, ("pause", 4))

    def test_where_another_one_ends(self):
        told = sheet(("up", [("zip", 10, 0)]), ("down", [("zip", 0, 0)]), ("stay", [("zip", 10, 0)]))
        self.need_shown([(1, "zip", 10), (7, "zip", 10), (8, "zip", 0)], told, ("up", 1), ("stay", 7), ("down", 8))
        self.need_busy("zip", told, ("up", 1), ("stay", 7), ("down", 7))
        self.need_busy("zip", told, ("up", 1), ("down", 7), ("down", 8))

    def test_the_first_one_in_order(self):
        moves = [("hole", 9, 0), ("cart", 9, 0), ("zip", 9, 0)]
        told = sheet(("all", moves), ("again", moves[1:] + moves[:1]), ("two", moves[:2]), ("turned", moves[1::-1]),
                     ("late", [("zip", 9, 1), ("hole", 9, 0)]))
        self.need_busy("zip", told, ("all", 1), ("all", 1))
        self.need_busy("zip", told, ("all", 1), ("again", 1))
        self.need_busy("cart", told, ("two", 1), ("turned", 1))
        # The hole is at rest at tick 2, the other two are not.
        self.need_busy("zip", told, ("all", 1), ("again", 2))
        self.need_busy("cart", told, ("all", 1), ("two", 2))
        # The first turn that has something wrong tells, not the first machine.
        self.need_busy("hole", told, ("all", 1), ("late", 1))

    def test_ahead_of_too_long_in_one_turn(self):
        told = sheet(("a", [("cart", 201, 0), ("hole", 5, 0)]), ("b", [("hole", 9, 0)]), ("c", [("cart", 201, 0)]))
        self.need_long(told, ("a", 2))
        self.need_busy("hole", told, ("a", 2), ("b", 2))
        self.need_busy("hole", told, ("b", 2), ("a", 2))
        self.need_busy("hole", told, ("b", 2), ("c", 2), ("b", 2))
        self.need_busy("cart", told, ("c", 2), ("c", 2))

    def test_an_earlier_tick_tells_first(self):
        told = sheet(("b", [("hole", 9, 0)]), ("c", [("cart", 201, 0)]))
        self.need_long(told, ("c", 2), ("b", 3), ("b", 3))
        self.need_busy("hole", told, ("c", 4), ("b", 3), ("b", 3))

    def test_an_earlier_turn_tells_first(self):
        told = sheet(("stay", [("hole", 0, 0)], [("move", 0)]), ("move", [("hole", 5, 0)]), ("far", [("cart", 201, 0)]),
                     ("rest", [("zip", 0, 0)], [("far", 0)]), ("both", [("hole", 0, 0)], [("move", 0), ("far", 0)]))
        # What is busy is so in the second turn, what is too far in the first one, the second one, the third one.
        self.need_long(told, ("stay", 3), ("far", 3))
        self.need_busy("hole", told, ("stay", 3), ("rest", 3))
        self.need_busy("hole", told, ("both", 3))
        # Here it is busy in the first turn.
        self.need_busy("hole", told, ("move", 3), ("move", 3), ("rest", 3))
        self.need_long(told, ("rest", 3))

    def test_what_a_last_step_calls_is_in_the_first_turn(self):
        # The zip takes its last step at tick 4: what that calls and the far one are in one turn, so that busy tells.
        told = sheet(("a", [("zip", 3, 0)], [("b", 0)]), ("b", [("hole", 5, 0)]), ("far", [("cart", 201, 0)]))
        self.need_busy("hole", told, ("a", 1), ("b", 4), ("far", 4))
        self.need_long(told, ("a", 1), ("b", 5), ("far", 4))

    def test_what_a_move_of_no_distance_calls_is_in_the_second_turn(self):
        # Beside the last step at tick 4 there is a move of no distance, so that the cue ends in the first turn.
        told = sheet(("a", [("zip", 3, 0), ("cart", 0, 3)], [("b", 0)]), ("b", [("hole", 5, 0)]),
                     ("far", [("cart", 201, 0)]), ("stay", [("hole", 0, 0)]), ("other", [("hole", 201, 0)]))
        self.need_busy("hole", told, ("a", 1), ("stay", 4))
        self.need_busy("cart", told, ("a", 1), ("far", 4))
        told = sheet(("a", [("zip", 3, 0), ("hole", 0, 3)], [("b", 0)]), ("b", [("hole", 5, 0)]),
                     ("far", [("cart", 201, 0)]))
        self.need_busy("hole", told, ("a", 1))
        self.need_long(told, ("a", 1), ("far", 4))


class EndTest(unittest.TestCase):
    def test_moves_up_to_the_400th_tick(self):
        told = sheet(("far", [("cart", 200, 0)]), ("stay", [("zip", 0, 0)]), ("late", [("zip", 0, 50)]))
        self.assertEqual(400, way(told, ("far", 200)).end())
        need_refused(self, TooLong, way, told, ("far", 201))
        self.assertEqual(400, way(told, ("stay", 400)).end())
        need_refused(self, TooLong, way, told, ("stay", 401))
        self.assertEqual(400, way(told, ("late", 350)).end())
        need_refused(self, TooLong, way, told, ("late", 351))
        for tick in [402, 1000, 10 ** 9]:
            need_refused(self, TooLong, way, told, ("far", tick))

    def test_followers_up_to_the_400th_tick(self):
        for wait in [0, 1, 50]:
            told = sheet(("far", [("cart", 200 - wait, 0)], [("near", wait)]), ("near", [("cart", -wait, 0)]))
            self.assertEqual(400, way(told, ("far", 0)).end())
            need_refused(self, TooLong, way, told, ("far", 1))
        told = sheet(("far", [("cart", 200, 0)], [("near", 0)]), ("near", [("cart", 0, 0)], [("stay", 0)]),
                     ("stay", [("zip", 0, 0)]))
        self.assertEqual(400, way(told, ("far", 0)).end())
        told = sheet(("far", [("cart", 200, 0)], [("near", 0)]), ("near", [("cart", 0, 0)], [("stay", 1)]),
                     ("stay", [("zip", 0, 0)]))
        need_refused(self, TooLong, way, told, ("far", 0))

    def test_busy_at_the_400th_tick(self):
        told = sheet(("far", [("cart", 200, 0)]), ("stay", [("zip", 0, 0)]))
        self.assertEqual("zip", need_refused(self, Busy, way, told, ("far", 200), ("stay", 400), ("stay", 400)).name)

    def test_a_refused_cue_leaves_the_way(self):
        told = sheet(("far", [("cart", 200, 0)]), ("near", [("cart", 0, 0)]))
        ways = way(told, ("far", 150))
        wanted = tellings(ways)
        need_refused(self, TooLong, ways.adds, told, "near", 350)
        self.assertEqual(wanted, tellings(ways))


class GoesOnTest(unittest.TestCase):
    def test_amid_a_move(self):
        told = sheet(("up", [("zip", 10, 0)], [("next", 2)]), ("next", [("hole", 5, 0)]))
        ways = way(told, ("up", 1))
        # The steps are 1, 2, 3, 2, 1, 1 in the ticks 2 to 7; where all come to rest behind a stop at each tick.
        rests = [0, 0, 1, 4, 9, 9, 9, 10, 10]
        for tick, rest in enumerate(rests):
            later = ways.goes_on(tick)
            self.assertIsInstance(later, Ways)
            self.assertEqual([rest, 0, 0], later.at(0), tick)
            self.assertEqual([10, 0, 5], later.at(later.end()), tick)
        self.assertEqual([(1, "zip", 10), (9, "hole", 5)], ways.goes_on(0).shown())
        self.assertEqual([(0, "zip", 10), (8, "hole", 5)], ways.goes_on(1).shown())
        # From 4 on it takes 1, 2, 2, 1.
        self.assertEqual([(0, "zip", 10), (6, "hole", 5)], ways.goes_on(3).shown())
        self.assertEqual([(0, "zip", 10), (3, "hole", 5)], ways.goes_on(5).shown())
        # At the tick of its last step the cue has ended, and the one behind it is still to begin.
        self.assertEqual([(2, "hole", 5)], ways.goes_on(7).shown())
        self.assertEqual([(1, "hole", 5)], ways.goes_on(8).shown())

    def test_a_move_that_begins_at_the_very_tick(self):
        told = sheet(("a", [("zip", 10, 4), ("hole", 0, 4)]))
        ways = way(told, ("a", 0))
        self.assertEqual([(1, "zip", 10), (1, "hole", 0)], ways.goes_on(3).shown())
        # The one of no distance has ended, the other one is broken off.
        self.assertEqual([(0, "zip", 10)], ways.goes_on(4).shown())

    def test_what_comes_to_its_goal_by_braking(self):
        stage = Stage(1, {}, [Line("zip", 0, 9, 2, 1, 0, 0, 0, 1, 1), Line("cart", 0, 9, 1, 1, 0, 1, 0, 1, 1)])
        told = sheet(("a", [("zip", 4, 0)], [("b", 0)]), ("b", [("cart", 1, 0)]))
        ways = Ways(stage, [0, 0]).adds(told, "a", 0)
        self.assertEqual([[0, 0], [1, 0], [3, 0], [4, 0], [4, 1]], rows_of(ways))
        # Stopped behind the step of 2 it goes on by 1: it is where it was to go, but by a move that was broken off.
        later = ways.goes_on(2)
        self.assertEqual([[4, 0], [4, 1]], rows_of(later))
        self.assertEqual([(0, "zip", 4), (0, "cart", 1)], later.shown())

    def test_waits_that_are_partly_over(self):
        told = sheet(("a", [("zip", 10, 20), ("cart", 3, 0)], [("b", 5)]), ("b", [("hole", 5, 7)]))
        ways = way(told, ("a", 2))
        for tick in range(22):
            wanted = {(22 - tick, "zip", 10)}
            if tick < 5:
                wanted.add((max(0, 2 - tick), "cart", 3))
            wanted.add((22 - tick + 6 + 5 + 7, "hole", 5))
            self.assertEqual(wanted, set(ways.goes_on(tick).shown()), tick)
        # The cue ended at 28, so the other one begins at 33, and its move at 40.
        for tick in range(28, 41):
            wanted = [(40 - tick, "hole", 5)]
            self.assertEqual(wanted, ways.goes_on(tick).shown(), tick)

    def test_nothing_left(self):
        told = sheet(("a", [("zip", 10, 0)]))
        ways = way(told, ("a", 0))
        for tick in [6, 7, 400, 401, 10 ** 9]:
            later = ways.goes_on(tick)
            self.assertEqual((0, [10, 0, 0], []), (later.end(), later.at(0), later.shown()))
        later = Ways(STAGE, [1, 2, 3]).goes_on(0)
        self.assertEqual((0, [1, 2, 3], []), (later.end(), later.at(0), later.shown()))

    def test_nothing_moves(self):
        told = sheet(("a", [("zip", 10, 9)], [("b", 9)]), ("b", [("hole", 5, 0)]))
        ways = way(told, ("a", 3))
        self.assertEqual(tellings(way(told, ("a", 0)))[3], ways.goes_on(3).shown())
        self.assertEqual([(8, "zip", 10), (8 + 15, "hole", 5)], ways.goes_on(4).shown())
        self.assertEqual([(7, "hole", 5)], ways.goes_on(20).shown())

    def test_stopped_again(self):
        told = sheet(("a", [("zip", 10, 0), ("cart", 9, 8)], [("b", 5)]), ("b", [("hole", 5, 7)]))
        once = way(told, ("a", 0)).goes_on(3)
        self.assertEqual([9, 0, 0], once.at(0))
        self.assertEqual([(0, "zip", 10), (5, "cart", 9), (5 + 9 + 12, "hole", 5)], once.shown())
        twice = once.goes_on(2)
        self.assertEqual([(3, "cart", 9), (3 + 9 + 12, "hole", 5)], twice.shown())
        thrice = twice.goes_on(5)
        self.assertEqual([10, 2, 0], thrice.at(0))
        self.assertEqual([(0, "cart", 9), (7 + 12, "hole", 5)], thrice.shown())
        self.assertEqual([(3, "hole", 5)], thrice.goes_on(16).shown())

    def test_added_behind(self):
        told = sheet(("a", [("zip", 10, 0)], [("b", 0)]), ("b", [("hole", 5, 0)]), ("c", [("cart", 1, 0)]))
        later = way(told, ("a", 0)).goes_on(3)
        added = later.adds(told, "c", 1)
        self.assertEqual([(0, "zip", 10), (1, "cart", 1), (1, "hole", 5)], added.shown())
        self.assertEqual("zip", need_refused(self, Busy, added.adds, told, "a", 0).name)
        self.assertEqual(2, added.end())

    def test_busy(self):
        told = sheet(("up", [("zip", 4, 0)]), ("down", [("zip", 0, 3)]))
        ways = way(told, ("up", 0), ("down", 0))
        self.assertEqual([(0, "zip", 4), (3, "zip", 0)], ways.goes_on(0).shown())
        # Instead of 2, 1 it now takes 1, 1, 1, but only two ticks are left till the other one begins.
        self.assertEqual("zip", need_refused(self, Busy, ways.goes_on, 1).name)
        self.assertEqual([(0, "zip", 4), (1, "zip", 0)], ways.goes_on(2).shown())

    def test_too_long(self):
        stage = Stage(1, {}, [Line("lift", 0, 99, 5, 1, 0, 0, 0, 1, 1), Line("cart", 0, 300, 1, 1, 0, 1, 0, 1, 1)])
        told = sheet(("a", [("lift", 25, 0)], [("b", 0)]), ("b", [("cart", 1, 0)]), ("c", [("cart", 201, 10)]))
        ways = Ways(stage, [0, 0]).adds(told, "a", 0).adds(told, "c", 0)
        self.assertEqual([(0, "lift", 25), (9, "cart", 1), (10, "cart", 201)], ways.shown())
        self.assertEqual(210, ways.goes_on(0).end())
        # The lift takes longer than was left, so that the cart's moves begin together, then the other way round.
        self.assertEqual("cart", need_refused(self, Busy, ways.goes_on, 1).name)
        need_refused(self, TooLong, ways.goes_on, 2)
        self.assertEqual(210, ways.end())

    def test_against_a_plain_going(self):
        met = {}
        for seed in range(250):
            chance = random.Random(seed)
            stage = some_stage(chance)
            told = some_sheet(chance, stage)
            ways, live = self.some_way(chance, stage, told)
            for each in range(2):
                tick = chance.randint(0, ways.end() + 2)
                ways, live, result = self.stop_both(stage, ways, live, tick)
                met[result] = met.get(result, 0) + 1
                if result != "done":
                    break
        self.assertLess(200, met["done"])
        self.assertLess(0, sum(many for result, many in met.items() if result[0] == "busy"))

    def some_way(self, chance, stage, told):
        """A way of some cues, and a plain going of the same ones at tick 0."""
        places = some_places(chance, stage)
        ways, live = Ways(stage, places), Live(stage, places)
        for each in range(chance.randint(1, 5)):
            cue, tick = chance.choice(told.names()), chance.randint(0, 30)
            try:
                ways = ways.adds(told, cue, tick)
            except (Busy, TooLong):
                continue
            live.call(told, cue, tick)
        return ways, live

    def stop_both(self, stage, ways, live, tick):
        """What goes on of both behind a stop at a tick, and what came of it."""
        live.take_turns()
        while live.tick < tick:
            live.go()
        rest = plain_stop(stage, live.places, live.steps)[-1]
        later = live.left_from(rest)
        ahead = later.copied()
        wanted = outcome(lambda: (ahead.take_turns(), ahead.run_out()))
        self.assertEqual(wanted, outcome(ways.goes_on, tick))
        if wanted != "done":
            return ways, live, wanted
        ways = ways.goes_on(tick)
        self.assertEqual(ahead.tick, ways.end())
        self.assertEqual(ahead.sorted_moves(), ways.shown())
        ahead = later.copied()
        ahead.take_turns()
        self.assertEqual(ahead.run_out()[0], rows_of(ways))
        return ways, later, "done"


class PlainTest(unittest.TestCase):
    """Ways of stages, sheets and cues by chance, held against a plain going."""

    def test_against_a_plain_going(self):
        met = {"done": 0, "busy": 0, "TooLong": 0}
        for seed in range(400):
            chance = random.Random(seed)
            stage = some_stage(chance)
            told = some_sheet(chance, stage)
            places = some_places(chance, stage)
            ways, added = Ways(stage, places), []
            for each in range(4):
                begin = (chance.choice(told.names()), chance.choice([0, 1, 2, 5, 30, 90, 390]))
                result = self.need_like(stage, places, told, ways, added + [begin], begin)
                met[result if isinstance(result, str) else result[0]] += 1
                if result == "done":
                    added.append(begin)
                    ways = ways.adds(told, *begin)
        for result in met:
            self.assertLess(20, met[result], result)

    def need_like(self, stage, places, told, ways, begins, begin):
        live = Live(stage, places)
        for cue, tick in begins:
            live.call(told, cue, tick)
        rows, steps = [], []
        try:
            live.take_turns()
            rows, steps = live.run_out()
            wanted = "done"
        except Wrong as wrong:
            wanted = wrong.told
        self.assertEqual(wanted, outcome(ways.adds, told, *begin))
        if wanted == "done":
            later = ways.adds(told, *begin)
            self.assertEqual(rows, rows_of(later))
            self.assertEqual(steps, [steps_by(later, tick) for tick in range(later.end() + 1)])
            self.assertEqual(live.sorted_moves(), later.shown())
            self.assertEqual([0] * len(places), steps_by(later, later.end() + 1))
        return wanted


class BackTest(unittest.TestCase):
    def test_one_list(self):
        back = Back(STAGE, [[1, 2, 3]])
        self.assertEqual(0, back.end())
        for tick in [0, 1, 50]:
            self.assertEqual([1, 2, 3], back.at(tick))
            self.assertEqual([0, 0, 0], steps_by(back, tick))

    def test_many(self):
        book = [[0, 0, 5], [1, 0, 3], [3, -1, 3], [3, -2, 200]]
        back = Back(STAGE, book)
        self.assertEqual(3, back.end())
        self.assertEqual(book[::-1] + [[0, 0, 5]] * 2, rows_of(back, 2))
        wanted = [[0, 0, 0], [0, 1, -197], [-2, 1, 0], [-1, 0, 2], [0, 0, 0], [0, 0, 0]]
        self.assertEqual(wanted, [steps_by(back, tick) for tick in range(6)])

    def test_of_a_way(self):
        told = sheet(("a", [("zip", 10, 2), ("cart", -9, 0)], [("b", 3)]), ("b", [("hole", 5, 0)]))
        rows = rows_of(way(told, ("a", 4)))
        self.assertEqual(rows[::-1], rows_of(Back(STAGE, rows)))
        self.assertEqual(rows, rows_of(Back(STAGE, rows_of(Back(STAGE, rows)))))

    def test_nothing_hangs_on_the_book(self):
        book = [[0, 0, 5], [1, 0, 3], [3, -1, 3]]
        back = Back(STAGE, book)
        book[0][0] = 99
        book[2].clear()
        book.pop()
        wanted = [[3, -1, 3], [1, 0, 3], [0, 0, 5]]
        self.assertEqual(wanted, rows_of(back))
        back.at(0).clear()
        back.at(2)[1] = 7
        self.assertEqual(wanted, rows_of(back))
        self.assertEqual([[99, 0, 5], [1, 0, 3]], book)


if __name__ == "__main__":
    unittest.main()
