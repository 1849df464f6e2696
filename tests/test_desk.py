"""Points 1 and 13, and the interface of flywright/desk.py."""

import random
import unittest

from flywright.desk import answered, played
from flywright.errors import BadSheet
from flywright.machines import Line, Wagon
from flywright.sheets import Sheet
from flywright.show import Show
from flywright.stage import Stage
from helpers import NO_NUMBERS, Odd, need_refused

STAGE = Stage(5, {}, [
    Wagon("van", 0, 200, 3, 1, 50, 0, 1, 1),
    Wagon("cart", 0, 200, 3, 1, 0, 0, 1, 1),
    Line("lift", -50, 50, 3, 1, 0, 1, 0, 1, 1),
    Line("pole", -300, 300, 1, 1, 0, 2, 0, 1, 1),
])
SHEET = Sheet([
    ("up", [("lift", -10, 0)], []),
    ("crash", [("cart", 60, 0)], []),
    ("far", [("pole", 201, 0)], []),
    ("late", [("pole", -2, 40)], []),
    ("hop", [("lift", 4, 0)], []),
    ("down", [("lift", 0, 3)], []),
    ("stop", [("lift", 1, 0)], []),
])
REST = ["van 50", "cart 0", "lift 0", "pole 0"]


def after(*lines):
    """A show behind these lines."""
    show = Show(STAGE, SHEET)
    for line in lines:
        answered(show, line)
    return show


def last(*lines):
    """The answer to the last one of these lines on a new show."""
    return played(STAGE, SHEET, list(lines))[-1]


class LinesTest(unittest.TestCase):
    def test_go(self):
        for many in range(1, 61):
            self.assertEqual([f"tick {many}"], last(f"go {many}"))
        self.assertEqual([["tick 60"], ["tick 61"], ["tick 98"]], played(STAGE, SHEET, ["go 60", "go 1", "go 37"]))
        show = after("go 7")
        self.assertEqual((7, 8), (show.clock(), len(show.book())))

    def test_no_such_go(self):
        for many in ["0", "61", "62", "100", "600", "-1", "-0", "00", "01", "060", "+1", "+60", "1.0", "1e1", "0x1",
                     "1_0", "", "x", "one", "-", "5 ", " 5", "5,", "9" * 3000, "0" * 3000 + "5", "1 1", "1 go"]:
            show = after("press up")
            self.assertEqual(["no line"], answered(show, f"go {many}"), many)
            self.assertEqual(0, show.clock())
        self.assertEqual(["no line"], last("go"))

    def test_press(self):
        self.assertEqual(["pressed"], last("press up"))
        self.assertEqual([["pressed"], ["tick 2"], ["-3"]], played(STAGE, SHEET, ["press up", "go 2", "where lift"]))
        # A cue may be called as a line is.
        self.assertEqual([["pressed"], ["tick 1"], ["1"]], played(STAGE, SHEET, ["press stop", "go 1", "where lift"]))

    def test_no_cue(self):
        for word in ["ups", "UP", "Up", "lift", "press", "5", "0", "-1", "up.", "up,up", "u-p", "~", "abcdefghi", "a" * 3000]:
            self.assertEqual(["no cue"], last(f"press {word}"), word)
        # Told ahead of what is stopped.
        self.assertEqual(["no cue"], last("stop", "press ups"))

    def test_stop_on_back(self):
        for lines in [["stop"], ["stop", "on"], ["back"], ["go 5", "back"], ["press up", "go 3", "stop"],
                      ["press up", "go 3", "stop", "go 2", "on"], ["press up", "go 6", "back"]]:
            self.assertEqual(["done"], last(*lines))
        self.assertEqual([["pressed"], ["tick 3"], ["done"], ["tick 9"], ["-9"], ["done"], ["tick 10"], ["-10"],
                          ["done"], ["tick 21"], ["0"]],
                         played(STAGE, SHEET, ["press up", "go 3", "stop", "go 6", "where lift", "on", "go 1",
                                               "where lift", "back", "go 1", "where lift"]))

    def test_where(self):
        self.assertEqual([["50"], ["0"], ["0"], ["0"]],
                         played(STAGE, SHEET, ["where van", "where cart", "where lift", "where pole"]))
        self.assertEqual(["-10"], last("press up", "go 60", "where lift"))

    def test_all(self):
        self.assertEqual(REST, last("all"))
        self.assertEqual(["van 50", "cart 0", "lift -6", "pole 0"], last("press up", "go 3", "all"))

    def test_still(self):
        self.assertEqual(["yes"], last("still"))
        self.assertEqual(["no"], last("press up", "still"))
        self.assertEqual(["no"], last("press late", "go 39", "still"))
        self.assertEqual(["no"], last("press up", "go 3", "stop", "still"))
        self.assertEqual(["yes"], last("press up", "go 3", "stop", "go 2", "still"))
        self.assertEqual(["yes"], last("press late", "go 3", "stop", "still"))
        self.assertEqual(["yes"], last("press up", "go 6", "still"))


class RefusedTest(unittest.TestCase):
    def test_busy(self):
        self.assertEqual(["busy lift"], last("press up", "press up"))
        self.assertEqual(["busy lift"], last("press hop", "press down", "go 1", "stop", "on"))

    def test_too_near(self):
        self.assertEqual(["too near van cart 16"], last("press crash"))
        self.assertEqual(["too near van cart 21"], last("go 5", "press crash"))
        self.assertEqual(["too near van cart 23"], last("go 5", "press late", "go 2", "press crash"))

    def test_too_long(self):
        self.assertEqual(["too long"], last("press far"))
        self.assertEqual(["done"], last(*["go 50"] * 20, "back"))
        self.assertEqual(["too long"], last(*["go 50"] * 20, "go 1", "back"))

    def test_stopped(self):
        for line in ["press up", "press crash", "stop", "back"]:
            self.assertEqual(["stopped"], last("stop", line))
            self.assertEqual(["stopped"], last("press up", "go 3", "stop", "go 1", line))

    def test_not_stopped(self):
        self.assertEqual(["not stopped"], last("on"))
        self.assertEqual(["not stopped"], last("press up", "go 1", "on"))
        self.assertEqual(["not stopped"], last("stop", "on", "on"))

    def test_moving(self):
        self.assertEqual(["moving"], last("press up", "go 3", "stop", "on"))
        self.assertEqual(["moving"], last("press up", "back"))
        self.assertEqual(["moving"], last("press late", "go 5", "back"))

    def test_nothing_is_changed(self):
        for lines in [[], ["press up", "go 2"], ["press up", "go 3", "stop"], ["press late"]]:
            show = after(*lines)
            book, all_lines = show.book(), answered(show, "all")
            for line in ["press crash", "press far", "press none", "go 0", "where none", "press up now", "other"]:
                answered(show, line)
            self.assertEqual(book, show.book())
            self.assertEqual(all_lines, answered(show, "all"))
            twin = after(*lines)
            answered(show, "go 60")
            answered(twin, "go 60")
            self.assertEqual(twin.book(), show.book())


class NoLineTest(unittest.TestCase):
    def need_no_line(self, line):
        for lines in [[], ["press up", "go 2"], ["stop"]]:
            show = after(*lines)
            ahead = show.book(), show.is_still()
            self.assertEqual(["no line"], answered(show, line), line)
            self.assertEqual(ahead, (show.book(), show.is_still()))

    def test_no_text(self):
        for thing in NO_NUMBERS + [0, 5, ["stop"], ("stop",), b"stop", {"stop": 1}, Odd(), Show, STAGE]:
            if not isinstance(thing, str):
                self.need_no_line(thing)

    def test_blanks(self):
        self.need_no_line("")
        self.need_no_line(" ")
        self.need_no_line("  ")
        for line in ["go 5", "press up", "press none", "stop", "on", "back", "where cart", "all", "still"]:
            for other in [" " + line, line + " ", "  " + line, line + "  ", line.replace(" ", "  "), line + "\n",
                          "\n" + line, line.replace(" ", "\n")]:
                if other != line:
                    self.need_no_line(other)

    def test_more_words_and_fewer(self):
        for line in ["go", "press", "where", "go 5 5", "press up up", "press up 5", "stop 1", "stop stop", "on 1",
                     "back 1", "where cart van", "all cart", "all 1", "still 1", "go go", "where"]:
            self.need_no_line(line)

    def test_other_words(self):
        for line in ["5", "up", "cart", "Go 5", "GO 5", "STOP", "Stop", "stops", "sto", "go_on", "goon", "on.", "Press up",
                     "presses up", "where Cart", "where", "All", "Still", "no line", "done", "tick 5", "go5", "go-5",
                     "press:up", "clock", "places", "book", "is_still", "?", "~", "quit", "a" * 3900]:
            self.need_no_line(line)

    def test_no_machine(self):
        for word in ["up", "carts", "car", "Cart", "5", "0", "-1", "cart.", "abcdefghi", "all", "~", "x" * 3000]:
            self.need_no_line(f"where {word}")


class PlayedTest(unittest.TestCase):
    LINES = ["go 5", "go 1", "press up", "press hop", "press down", "press late", "press crash", "press far", "stop", "on",
             "back", "all", "still", "where lift", "where none", "press none", "go 0", "go 20", "", None, 5]

    def test_as_answered_on_a_new_show(self):
        for seed in range(60):
            chance = random.Random(seed)
            lines = [chance.choice(self.LINES) for each in range(40)]
            show = Show(STAGE, SHEET)
            wanted = [answered(show, line) for line in lines]
            self.assertEqual(wanted, played(STAGE, SHEET, lines))
            # Each time anew.
            self.assertEqual(wanted, played(STAGE, SHEET, list(lines)))

    def test_no_lines(self):
        self.assertEqual([], played(STAGE, SHEET, []))

    def test_kinds_of_what_is_told(self):
        answers = played(STAGE, SHEET, self.LINES)
        self.assertIs(list, type(answers))
        self.assertEqual([list] * len(answers), [type(answer) for answer in answers])
        self.assertEqual({str}, {type(line) for answer in answers for line in answer})

    def test_what_is_told_is_the_askers_own(self):
        show = after("press up", "go 2")
        for line in ["all", "still", "where lift", "other", "press up", "on"]:
            wanted = answered(show, line)
            answered(show, line).clear()
            answered(show, line).append("other")
            self.assertEqual(wanted, answered(show, line))
        lines = list(self.LINES)
        wanted = played(STAGE, SHEET, lines)
        told = played(STAGE, SHEET, lines)
        told[0].clear()
        told.clear()
        self.assertEqual(self.LINES, lines)
        lines.clear()
        self.assertEqual(wanted, played(STAGE, SHEET, self.LINES))

    def test_a_sheet_that_does_not_fit(self):
        need_refused(self, BadSheet, played, STAGE, Sheet([("a", [("cart", 201, 0)], [])]), [])
        need_refused(self, BadSheet, played, STAGE, None, ["go 1"])


if __name__ == "__main__":
    unittest.main()
