"""Points 1 and 12, with 9 to 11 as far as a show refuses by them, and the interface of flywright/show.py."""

import random
import unittest

from flywright.errors import BadSheet, Busy, Moving, NoCue, NotStopped, Stopped, TooLong, TooNear
from flywright.machines import Line, Wagon
from flywright.sheets import Sheet
from flywright.show import Show
from flywright.stage import Stage
from helpers import NO_NAMES, NO_NUMBERS, Odd, need_refused
from live import LiveShow, outcome, plain_near
from plays import some_convoy, some_sheet, some_stage

STAGE = Stage(5, {}, [
    Wagon("van", 0, 200, 3, 1, 50, 0, 1, 1),
    Wagon("cart", 0, 200, 3, 1, 0, 0, 1, 1),
    Line("lift", -50, 50, 3, 1, 0, 1, 0, 1, 1),
    Line("pole", -300, 300, 1, 1, 0, 2, 0, 1, 1),
])
SHEET = Sheet([
    ("up", [("lift", 10, 0)], []),
    ("down", [("lift", 0, 0)], []),
    ("late", [("pole", 2, 4)], [("up", 3)]),
    ("crash", [("cart", 60, 0)], []),
    ("run", [("cart", 44, 0)], []),
    ("leave", [("van", 150, 0)], [("crash", 0)]),
    ("far", [("pole", 201, 0)], []),
    ("home", [("pole", 0, 0), ("lift", 0, 0)], []),
    ("climb", [("pole", 100, 0)], []),
    ("sink", [("pole", -100, 0)], []),
])
REST = [50, 0, 0, 0]
# The places of the lift from the tick on at which it begins to go up.
UP = [0, 1, 3, 6, 8, 9, 10]


def new():
    return Show(STAGE, SHEET)


def went(show, many):
    """The show, so many ticks later."""
    for each in range(many):
        show.go()
    return show


def settled(show):
    """The show, when all that is to come by itself has come."""
    while not show.is_still():
        show.go()
    return show


def lifts(rows):
    return [row[2] for row in rows]


def state(show):
    return show.clock(), show.places(), show.is_still(), show.book()


def need_kept(test, kind, show, name, *told):
    """That an act is refused and changes nothing that the show tells; the refusal."""
    ahead = state(show)
    refusal = need_refused(test, kind, getattr(show, name), *told)
    test.assertEqual(ahead, state(show))
    return refusal


class NewTest(unittest.TestCase):
    def test_new(self):
        show = new()
        self.assertEqual((0, REST, True, [REST]), state(show))
        self.assertIs(STAGE, show.stage)
        self.assertIs(SHEET, show.sheet)

    def test_a_sheet_that_does_not_fit(self):
        other = Stage(5, {}, STAGE.machines()[:2])
        need_refused(self, BadSheet, Show, other, SHEET)
        need_refused(self, BadSheet, Show, STAGE, Sheet([("a", [("cart", 201, 0)], [])]))
        need_refused(self, BadSheet, Show, STAGE, Sheet([("a", [("cart", 1, 0)], [("b", 0)])]))
        need_refused(self, BadSheet, Show, STAGE, Sheet([("a", [("cart", 1, 0)], [("a", 0)])]))
        for thing in NO_NUMBERS + [5, STAGE, SHEET.cues(), SHEET.text()]:
            need_refused(self, BadSheet, Show, STAGE, thing)
        for thing in NO_NUMBERS + [5, SHEET, STAGE.machines()]:
            need_refused(self, BadSheet, Show, thing, SHEET)

    def test_all_acts_tell_nothing(self):
        show = new()
        self.assertIsNone(show.press("up"))
        self.assertIsNone(show.go())
        self.assertIsNone(show.stop())
        self.assertIsNone(show.go_on())
        self.assertIsNone(settled(show).back())

    def test_ticks_at_rest(self):
        show = went(new(), 7)
        self.assertEqual((7, REST, True, [REST] * 8), state(show))


class PressTest(unittest.TestCase):
    def test_at_rest(self):
        for ahead in [0, 1, 5]:
            show = went(new(), ahead)
            show.press("up")
            for tick, place in enumerate(UP):
                self.assertEqual((ahead + tick, [50, 0, place, 0]), (show.clock(), show.places()))
                self.assertIs(tick == 6, show.is_still())
                show.go()
            self.assertEqual([0] * ahead + UP + [10], lifts(show.book()))

    def test_one_behind_the_other(self):
        show = new()
        show.press("up")
        settled(show).press("down")
        settled(show)
        self.assertEqual(UP + [9, 7, 4, 2, 1, 0], lifts(show.book()))
        # Each way has ticks of its own: all of them together are more than 400.
        show = new()
        for each in range(3):
            show.press("climb")
            settled(show).press("sink")
            settled(show).press("home")
            settled(show)
        self.assertEqual(3 * 400, show.clock())

    def test_amid_a_way(self):
        show = new()
        show.press("late")
        self.assertIs(False, show.is_still())
        went(show, 2).press("run")
        # The pole goes from 4 to 6; the cart from 2 on; the lift begins at 9.
        settled(show)
        cart = [row[1] for row in show.book()]
        self.assertEqual([0, 0, 0, 1, 3, 6, 9, 12], cart[:8])
        self.assertEqual([0] * 5 + [1, 2, 2], [row[3] for row in show.book()][:8])
        self.assertEqual([0] * 9 + UP, lifts(show.book())[:16])
        self.assertEqual([50, 44, 10, 2], show.places())

    def test_with_nothing_moving_but_something_to_come(self):
        show = new()
        show.press("late")
        went(show, 7)
        self.assertEqual((7, [50, 0, 0, 2], False), state(show)[:3])
        # The lift's move is to come at tick 9, in the same way.
        self.assertEqual("lift", need_kept(self, Busy, show, "press", "up").name)
        show.press("down")
        self.assertIs(False, show.is_still())
        self.assertEqual([0] * 9 + UP, lifts(settled(show).book()))

    def test_at_the_tick_of_a_move_of_no_distance(self):
        # All rest and nothing is to come, so that each press begins a way of its own.
        show = new()
        show.press("down")
        self.assertIs(True, show.is_still())
        show.press("down")
        show.press("up")
        self.assertEqual(UP, lifts(settled(show).book()))

    def test_no_cue(self):
        show = new()
        for name in ["ups", "lift", "Up"] + NO_NAMES:
            need_kept(self, NoCue, show, "press", name)
        show.stop()
        # Told ahead of what is stopped.
        for name in ["ups", None, Odd()]:
            need_kept(self, NoCue, show, "press", name)

    def test_busy(self):
        show = new()
        show.press("up")
        for tick in range(6):
            self.assertEqual("lift", need_kept(self, Busy, show, "press", "down").name)
            self.assertEqual("lift", need_kept(self, Busy, show, "press", "up").name)
            show.go()
        show.press("down")
        settled(show)
        self.assertEqual(UP + [9, 7, 4, 2, 1, 0], lifts(show.book()))

    def test_too_long(self):
        show = new()
        need_kept(self, TooLong, show, "press", "far")
        show.press("climb")
        settled(show).press("far")
        self.assertEqual(201, settled(show).places()[3])

    def test_too_long_a_way(self):
        told = Sheet([("hold", [("lift", 0, 50)], []), ("up", [("lift", 10, 0)], [])])
        for ahead in [0, 9]:
            show = went(Show(STAGE, told), ahead)
            # Each press keeps the way on for fifty ticks more.
            for tick in range(0, 351, 35):
                went(show, ahead + tick - show.clock()).press("hold")
            for tick in range(351, 400):
                need_kept(self, TooLong, went(show, 1), "press", "hold")
            self.assertIs(False, show.is_still())
            went(show, 1)
            self.assertEqual((ahead + 400, True), (show.clock(), show.is_still()))
            # Now all rest and nothing is to come, so that a new way begins.
            show.press("hold")
            self.assertEqual(ahead + 450, settled(show).clock())

    def test_too_near(self):
        for ahead in [0, 7]:
            show = went(new(), ahead)
            refusal = need_kept(self, TooNear, show, "press", "crash")
            # The cart is too near from 45 on: it goes 1, 2, then by 3, so that it is at 45 at tick 16.
            self.assertEqual((ahead + 16, "van", "cart"), (refusal.tick, refusal.one, refusal.other))
            show.press("run")
            self.assertEqual([50, 44, 0, 0], settled(show).places())

    def test_too_near_amid_a_way(self):
        show = went(new(), 3)
        show.press("late")
        went(show, 2)
        refusal = need_kept(self, TooNear, show, "press", "crash")
        self.assertEqual((5 + 16, "van", "cart"), (refusal.tick, refusal.one, refusal.other))
        self.assertEqual([50, 0, 10, 2], settled(show).places())

    def test_too_near_by_a_stop(self):
        stage = Stage(5, {}, [Wagon("tail", 0, 400, 12, 1, 0, 0, 1, 1), Wagon("front", 0, 400, 10, 10, 7, 0, 1, 1)])
        told = Sheet([("both", [("tail", 190, 0), ("front", 307, 0)], []), ("first", [("front", 307, 0)], []),
                      ("last", [("tail", 190, 0)], [])])
        show = went(Show(stage, told), 20)
        refusal = need_kept(self, TooNear, show, "press", "both")
        self.assertEqual((31, "tail", "front"), (refusal.tick, refusal.one, refusal.other))
        show.press("first")
        refusal = need_kept(self, TooNear, show, "press", "last")
        self.assertEqual((31, "tail", "front"), (refusal.tick, refusal.one, refusal.other))
        went(show, 8).press("last")
        self.assertEqual([190, 307], settled(show).places())

    def test_let_by_behind_another(self):
        show = new()
        show.press("leave")
        self.assertEqual([150, 60, 0, 0], settled(show).places())

    def test_the_order_of_refusals(self):
        # Busy ahead of too long, too long ahead of too near.
        told = Sheet([("move", [("lift", 9, 0)], []), ("bad", [("lift", 1, 0), ("pole", 201, 0), ("cart", 60, 0)], []),
                      ("long", [("pole", 201, 0), ("cart", 60, 0)], [])])
        show = Show(STAGE, told)
        show.press("move")
        self.assertEqual("lift", need_kept(self, Busy, show, "press", "bad").name)
        need_kept(self, TooLong, show, "press", "long")
        show.stop()
        need_kept(self, Stopped, show, "press", "bad")


class StopTest(unittest.TestCase):
    def test_amid_a_move(self):
        for tick, rows in [(1, [1]), (2, [3, 4]), (3, [6, 8, 9]), (4, [8, 9]), (5, [9]), (6, [10])]:
            show = new()
            show.press("up")
            went(show, tick).stop()
            self.assertEqual(UP[tick], show.places()[2])
            for each, place in enumerate(rows):
                self.assertEqual(place, show.places()[2])
                self.assertIs(each == len(rows) - 1, show.is_still(), (tick, each))
                show.go()
            self.assertEqual(UP[:tick + 1] + rows[1:] + [rows[-1]] * 3, lifts(went(show, 2).book()))

    def test_what_is_to_come_does_not_come(self):
        show = new()
        show.press("late")
        went(show, 3).stop()
        self.assertIs(True, show.is_still())
        self.assertEqual([REST] * 61, went(show, 57).book())

    def test_at_rest(self):
        show = went(new(), 2)
        show.stop()
        self.assertEqual((2, REST, True, [REST] * 3), state(show))
        need_kept(self, Stopped, show, "press", "up")
        show.go_on()
        show.press("up")
        self.assertEqual([0, 0] + UP, lifts(settled(show).book()))

    def test_twice(self):
        show = new()
        show.press("up")
        went(show, 3).stop()
        for each in range(5):
            need_kept(self, Stopped, show, "stop")
            show.go()
        self.assertEqual([0, 1, 3, 6, 8, 9, 9, 9, 9], lifts(show.book()))

    def test_stopped_refuses(self):
        show = new()
        show.press("up")
        went(show, 3).stop()
        for each in range(4):
            need_kept(self, Stopped, show, "press", "run")
            need_kept(self, Stopped, show, "press", "up")
            need_kept(self, Stopped, show, "back")
            show.go()

    def test_at_the_very_tick_of_a_press(self):
        show = new()
        show.press("up")
        show.stop()
        self.assertEqual((0, REST, True, [REST]), state(show))
        self.assertEqual([0] * 5, lifts(went(show, 4).book()))
        show.go_on()
        self.assertEqual([0] * 4 + UP, lifts(settled(show).book()))

    def test_at_the_very_tick_of_a_later_press(self):
        show = new()
        show.press("up")
        went(show, 3).press("run")
        show.stop()
        settled(show)
        self.assertEqual((5, [50, 0, 9, 0]), state(show)[:2])
        show.go_on()
        self.assertEqual([50, 44, 10, 0], settled(show).places())
        self.assertEqual([0] * 6 + [1, 3, 6, 9], [row[1] for row in show.book()][:10])


class GoOnTest(unittest.TestCase):
    def test_not_stopped(self):
        show = new()
        need_kept(self, NotStopped, show, "go_on")
        show.press("up")
        went(show, 2)
        need_kept(self, NotStopped, show, "go_on")
        show.stop()
        settled(show).go_on()
        need_kept(self, NotStopped, show, "go_on")

    def test_moving(self):
        show = new()
        show.press("up")
        went(show, 3).stop()
        for each in range(2):
            need_kept(self, Moving, show, "go_on")
            show.go()
        show.go_on()
        self.assertEqual([0, 1, 3, 6, 8, 9, 10], lifts(settled(show).book()))

    def test_later(self):
        for later in [0, 1, 30]:
            show = new()
            show.press("late")
            went(show, 5).stop()
            went(settled(show), later).go_on()
            # The pole is at 1; its cue's follower comes three ticks behind its end.
            self.assertIs(False, show.is_still())
            self.assertEqual([1] * (later + 1) + [2], [row[3] for row in settled(show).book()][5:7 + later])
            self.assertEqual([0] * (5 + later + 4) + UP, lifts(show.book()))

    def test_waits_that_were_partly_over(self):
        show = new()
        show.press("late")
        went(show, 3).stop()
        went(show, 10).go_on()
        # A tick was left of the wait.
        self.assertEqual([0] * 15 + [1, 2], [row[3] for row in settled(show).book()][:17])
        self.assertEqual([0] * 19 + UP, lifts(show.book()))

    def test_one_that_was_still_to_begin(self):
        show = new()
        show.press("late")
        # The pole's move ends at 6, and the lift's begins at 9.
        went(show, 8).stop()
        went(show, 5).go_on()
        self.assertEqual([0] * 14 + UP, lifts(settled(show).book()))

    def test_nothing_left(self):
        show = new()
        show.press("up")
        went(show, 6).stop()
        show.go_on()
        self.assertIs(True, show.is_still())
        show.press("down")
        self.assertEqual(UP + [9, 7, 4, 2, 1, 0], lifts(settled(show).book()))

    def test_stopped_again(self):
        show = new()
        show.press("late")
        for tick in [2, 5, 5, 6, 9]:
            went(show, tick - show.clock()).stop()
            settled(show).go_on()
        # Nothing braked, so that the way is as without a stop.
        plain = new()
        plain.press("late")
        self.assertEqual(settled(plain).book(), settled(show).book())

    def test_pressed_behind(self):
        show = new()
        show.press("up")
        went(show, 2).stop()
        settled(show).go_on()
        self.assertEqual("lift", need_kept(self, Busy, show, "press", "down").name)
        show.press("run")
        self.assertEqual([50, 44, 10, 0], settled(show).places())

    def test_busy(self):
        told = Sheet([("up", [("lift", 4, 0)], []), ("down", [("lift", 0, 3)], [])])
        show = Show(STAGE, told)
        show.press("up")
        show.press("down")
        went(show, 1).stop()
        for each in range(3):
            self.assertEqual("lift", need_kept(self, Busy, show, "go_on").name)
            show.go()
        need_kept(self, Stopped, show, "press", "up")

    def test_too_long(self):
        stage = Stage(1, {}, [Line("lift", 0, 99, 5, 1, 0, 0, 0, 1, 1), Line("cart", 0, 300, 1, 1, 0, 1, 0, 1, 1)])
        told = Sheet([("a", [("lift", 25, 0)], [("b", 0)]), ("b", [("cart", 1, 0)], []), ("c", [("cart", 201, 10)], [])])
        show = went(Show(stage, told), 5)
        show.press("a")
        show.press("c")
        went(show, 2).stop()
        need_kept(self, TooLong, settled(show), "go_on")

    def test_too_near(self):
        # The cart passes below the other one just ahead of it; begun anew it comes later.
        stage = Stage(2, {}, [Wagon("cart", 0, 81, 9, 1, 0, 0, 1, 1), Line("drop", 0, 30, 30, 30, 30, 0, 60, 1, 1)])
        told = Sheet([("pass", [("cart", 81, 0), ("drop", 0, 12)], [])])
        show = Show(stage, told)
        show.press("pass")
        went(show, 4).stop()
        went(show, 3)
        self.assertEqual((7, [16, 30], True), state(show)[:3])
        refusal = need_kept(self, TooNear, show, "go_on")
        self.assertEqual((7 + 9, "cart", "drop"), (refusal.tick, refusal.one, refusal.other))
        # Refused, it is still stopped; and a tick later it is refused a tick later.
        need_kept(self, Stopped, show, "press", "pass")
        self.assertEqual(17, need_kept(self, TooNear, went(show, 1), "go_on").tick)


class BackTest(unittest.TestCase):
    def need_mirror(self, show):
        """That the book reads the same from both ends, and all are where they began."""
        book = show.book()
        self.assertEqual(book, book[::-1])
        self.assertEqual(len(book) - 1, show.clock())
        self.assertEqual([machine.place for machine in show.stage.machines()], show.places())
        self.assertIs(True, show.is_still())

    def test_at_once(self):
        show = new()
        show.back()
        self.assertEqual((0, REST, True, [REST]), state(show))
        went(show, 1).back()
        self.assertEqual((2, REST, True, [REST] * 3), state(show))

    def test_the_way_back(self):
        show = went(new(), 3)
        show.press("up")
        went(settled(show), 2)
        book = show.book()
        show.back()
        self.assertEqual(22, show.clock())
        self.assertEqual(book + book[-2::-1], show.book())
        self.need_mirror(show)
        show.back()
        self.assertEqual(44, show.clock())
        self.need_mirror(show)

    def test_a_stop_amid_it(self):
        show = new()
        show.press("late")
        show.press("run")
        went(show, 11).stop()
        settled(show).go_on()
        settled(show).back()
        self.need_mirror(show)

    def test_moving(self):
        show = new()
        show.press("late")
        while not show.is_still():
            need_kept(self, Moving, show, "back")
            show.go()
        show.back()
        self.need_mirror(show)

    def test_stopped(self):
        show = new()
        show.stop()
        need_kept(self, Stopped, show, "back")
        show.go_on()
        show.press("up")
        went(show, 3).stop()
        for each in range(3):
            need_kept(self, Stopped, show, "back")
            show.go()
        show.go_on()
        settled(show).back()
        self.need_mirror(show)

    def test_too_long(self):
        show = new()
        show.press("up")
        went(show, 1000).back()
        self.assertEqual(2000, show.clock())
        self.need_mirror(show)
        need_kept(self, TooLong, show, "back")
        show = new()
        show.press("up")
        need_kept(self, TooLong, went(show, 1001), "back")
        show.press("down")
        # Moving is told first.
        need_kept(self, Moving, show, "back")

    def test_too_near(self):
        # Forwards the one that brakes at once comes behind the other one, backwards it goes ahead of it.
        stage = Stage(5, {}, [Wagon("tail", 0, 400, 12, 1, 192, 0, 1, 1), Wagon("front", 0, 400, 10, 10, 307, 0, 1, 1)])
        told = Sheet([("all", [("tail", 0, 3), ("front", 7, 0)], []), ("clear", [("front", 307, 0)], [])])
        for ahead, behind in [(0, 0), (4, 0), (0, 9)]:
            show = went(Show(stage, told), ahead)
            show.press("all")
            went(settled(show), behind)
            self.assertEqual(ahead + 30 + behind, show.clock())
            refusal = need_kept(self, TooNear, show, "back")
            wanted = (ahead + 30 + behind + behind + 11, "tail", "front")
            self.assertEqual(wanted, (refusal.tick, refusal.one, refusal.other))
            show.press("clear")
            self.assertEqual([0, 307], settled(show).places())

    def test_a_press_behind(self):
        show = new()
        show.press("up")
        settled(show).back()
        show.press("up")
        self.assertEqual(UP + UP[-2::-1] + UP[1:], lifts(settled(show).book()))
        show.stop()
        show.go_on()
        show.back()
        self.need_mirror(show)
        show.stop()
        self.assertIs(True, show.is_still())
        went(show, 2)
        self.assertEqual([REST] * 3, show.book()[-3:])


class OwnTest(unittest.TestCase):
    def test_what_is_told_is_the_askers_own(self):
        show = new()
        show.press("late")
        show.press("run")
        twin = new()
        twin.press("late")
        twin.press("run")
        for each in range(60):
            if each == 10:
                show.stop()
                twin.stop()
            if each == 25:
                show.go_on()
                twin.go_on()
            if each == 55:
                show.back()
                twin.back()
            show.places().clear()
            show.places()[0] = 7
            for row in show.book():
                row.reverse()
                row.clear()
            show.book().clear()
            show.go()
            twin.go()
            self.assertEqual(state(twin), state(show))

    def test_two_shows(self):
        one, other = new(), new()
        one.press("up")
        went(one, 3).stop()
        self.assertEqual((0, REST, True, [REST]), state(other))
        other.press("run")
        self.assertEqual([50, 44, 0, 0], settled(other).places())
        self.assertEqual((3, [50, 0, 6, 0]), state(one)[:2])
        self.assertEqual([machine.place for machine in STAGE.machines()], REST)
        self.assertEqual(10, len(SHEET.names()))

    def test_what_is_refused_changes_nothing_of_what_comes_later(self):
        show, twin = new(), new()
        acts = [("press", "up"), ("press", "up"), ("press", "crash"), ("press", "far"), ("press", "other"), ("back",),
                ("go_on",), ("press", "late"), ("stop",), ("stop",), ("go_on",), ("press", "run")]
        for seed in range(30):
            chance = random.Random(seed)
            for each in range(60):
                name, *told = chance.choice(acts)
                if outcome(getattr(show, name), *told) == "done":
                    getattr(twin, name)(*told)
                for tick in range(chance.choice([0, 1, 4])):
                    show.go()
                    twin.go()
            self.assertEqual(state(twin), state(show))
            show, twin = new(), new()


class PlainTest(unittest.TestCase):
    """Shows by chance, held against a plain one that goes tick by tick and looks ahead."""

    def play(self, stage, told, chance, met):
        show, live = Show(stage, told), LiveShow(stage, told)
        for each in range(40):
            name = chance.choice(["go"] * 8 + ["press"] * 5 + ["stop", "go_on", "go_on", "back"])
            if name == "go":
                for tick in range(chance.choice([1, 1, 2, 5, 20, 40])):
                    show.go()
                    live.go()
                    self.need_like(show, live)
                continue
            names = [chance.choice(told.names() + ["none"])] if name == "press" else []
            result = outcome(getattr(live, name), *names)
            self.assertEqual(result, outcome(getattr(show, name), *names))
            self.need_like(show, live)
            met.add((name, result if isinstance(result, str) else result[0]))
        self.assertEqual(live.book, show.book())
        return show

    def need_like(self, show, live):
        self.assertEqual((live.clock(), live.book[-1], live.is_still()),
                         (show.clock(), show.places(), show.is_still()))

    def need_safe(self, show):
        """That at no tick of the book two machines are too near, nor behind a stop at any of them."""
        book = show.book()
        steps = [[0] * len(book[0])]
        steps += [[place - ahead for ahead, place in zip(*pair)] for pair in zip(book, book[1:])]
        self.assertIsNone(plain_near(show.stage, book, steps, 0))

    def need_backwards(self, show):
        """Where it can be run backwards, that it comes to where it began by a book that reads the same."""
        first = show.places()
        if outcome(show.back) == "done":
            self.assertEqual(show.book()[0], show.places())
            self.assertEqual(show.book(), show.book()[::-1])
            self.assertEqual(first, show.book()[show.clock() // 2])

    def test_crowded_stages(self):
        met = set()
        for seed in range(150):
            chance = random.Random(seed)
            stage = some_stage(chance)
            show = self.play(stage, some_sheet(chance, stage), chance, met)
            self.need_safe(show)
            self.need_backwards(show)
        wanted = {("press", result) for result in ["done", "busy", "near", "NoCue", "Stopped"]}
        wanted |= {("stop", "done"), ("stop", "Stopped"), ("go_on", "done"), ("go_on", "NotStopped"),
                   ("go_on", "Moving"), ("back", "done"), ("back", "Moving"), ("back", "Stopped")}
        self.assertEqual(set(), wanted - met)

    def test_convoys(self):
        met = set()
        for seed in range(120):
            chance = random.Random(seed)
            show = self.play(*some_convoy(chance), chance, met)
            self.need_safe(show)
            self.need_backwards(show)
        wanted = {("press", "near"), ("press", "done"), ("go_on", "done"), ("back", "done"), ("back", "near")}
        self.assertEqual(set(), wanted - met)


if __name__ == "__main__":
    unittest.main()
