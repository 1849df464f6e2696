"""Points 1 and 8, and the interface of flywright/sheets.py."""

import re
import unittest

from bends import bent
from flywright.errors import BadRow, BadSheet, NoCue
from flywright.sheets import Sheet, read_sheet
from flywright.stage import Stage
from helpers import BILLION, NO_NAMES, NO_NUMBERS, Odd, around, floor, line, need_refused, trap, wagon, with_one

NAMES = ["a", "b", "c", "d", "e", "f", "g", "h", "i", "j", "k", "l", "m"]
MOVE = ("cart", 10, 5)
CUES = [
    ("open", [("cart", 10, 0), ("cloth", -20, 50)], [("next", 3), ("next", 3), ("last", 0)]),
    ("next", [("disc", 0, 1)], []),
    ("last", [("hole", -5, 2)], [("next", 50)]),
]
TEXT = "\n".join([
    "cue open", "move cart 10 0", "move cloth -20 50", "then next 3", "then next 3", "then last 0",
    "cue next", "move disc 0 1",
    "cue last", "move hole -5 2", "then next 50",
])
SIX_MOVES = "\n".join(["cue a"] + [f"move {name} 0 0" for name in NAMES[:6]] + ["then b 0", "then c 1", "then d 2"])
TWELVE = "\n".join([f"cue {name}\nmove a 5 5" for name in NAMES[:12]])
BOUNDS = "cue abcdefgh\nmove zzzzzzzz -1000000000 50\nmove y 1000000000 0\nthen zzzzzzzz 50\nthen a 0"
TEXTS = [TEXT, SIX_MOVES, TWELVE, BOUNDS, "cue a\nmove a 0 0"]

NUMBER = r"(0|-?[1-9][0-9]*)"
WAIT = r"(0|[1-9]|[1-4][0-9]|50)"


def copied(cues):
    return [(name, list(moves), list(followers)) for name, moves, followers in cues]


def chain(*rows):
    """A sheet of cues, each row one of them and its followers."""
    return Sheet([(names[0], [("cart", 0, 0)], [(name, 0) for name in names[1:]]) for names in rows])


def first_bad_row(text):
    """The first row that can't stand there, told by another, plainer reader; None where each can."""
    rows = text.split("\n")
    # What stands in the text so far: C for a cue, m for a move, t for a follower.
    shape, names, moved = "", [], []
    for at, row in enumerate(rows, start=1):
        cue = re.fullmatch("cue ([a-z]{1,8})", row)
        move = re.fullmatch(f"move ([a-z]{{1,8}}) {NUMBER} {WAIT}", row)
        if cue and cue[1] not in names:
            shape, moved = shape + "C", []
            names.append(cue[1])
        elif move and move[1] not in moved and -BILLION <= int(move[2]) <= BILLION:
            shape += "m"
            moved.append(move[1])
        elif re.fullmatch(f"then [a-z]{{1,8}} {WAIT}", row):
            shape += "t"
        else:
            return at
        if not re.fullmatch("(Cm{1,6}t{0,3}){0,11}C(m{1,6}t{0,3})?", shape):
            return at
    return len(rows) + 1 if shape.endswith("C") else None


class TellingTest(unittest.TestCase):
    def setUp(self):
        self.sheet = Sheet(copied(CUES))

    def test_cues_names_moves_followers(self):
        self.assertEqual(CUES, self.sheet.cues())
        self.assertEqual(["open", "next", "last"], self.sheet.names())
        for name, moves, followers in CUES:
            self.assertEqual(moves, self.sheet.moves(name))
            self.assertEqual(followers, self.sheet.followers(name))

    def test_kinds_of_what_is_told(self):
        self.assertEqual([list, list], [type(self.sheet.cues()), type(self.sheet.names())])
        for cue in self.sheet.cues():
            self.assertEqual([tuple, str, list, list], [type(cue)] + [type(part) for part in cue])
            self.assertEqual([tuple] * len(cue[1] + cue[2]), [type(row) for row in cue[1] + cue[2]])
        self.assertEqual([tuple, tuple], [type(move) for move in self.sheet.moves("open")])
        self.assertEqual([tuple] * 3, [type(follower) for follower in self.sheet.followers("open")])
        self.assertEqual([], self.sheet.followers("next"))
        self.assertIs(list, type(self.sheet.followers("next")))

    def test_no_cue(self):
        for name in ["cart", "nex", "nextt", "Next"] + NO_NAMES:
            need_refused(self, NoCue, self.sheet.moves, name)
            need_refused(self, NoCue, self.sheet.followers, name)
        self.test_cues_names_moves_followers()

    def test_what_is_told_is_the_askers_own(self):
        for act in [self.sheet.cues, self.sheet.names, lambda: self.sheet.moves("open"),
                    lambda: self.sheet.followers("open")]:
            first = act()
            first.append("other")
            first.reverse()
            act().clear()
        for cue in self.sheet.cues():
            cue[1].clear()
            cue[2].append(("other", 5))
        self.test_cues_names_moves_followers()
        self.assertEqual(TEXT, self.sheet.text())

    def test_nothing_hangs_on_what_was_handed_in(self):
        cues = copied(CUES)
        sheet = Sheet(cues)
        cues[0][1].append(("other", 0, 0))
        cues[0][2].clear()
        cues[1][1][0] = ("other", 1, 1)
        cues[1] = ("other", [], [])
        cues.pop()
        self.assertEqual(CUES, sheet.cues())
        self.assertEqual(TEXT, sheet.text())

    def test_what_is_handed_in_is_not_changed(self):
        cues = copied(CUES)
        sheet = Sheet(cues)
        sheet.cues()[0][1].clear()
        sheet.moves("open").clear()
        sheet.followers("open").clear()
        self.assertEqual(CUES, cues)
        wrong = copied(CUES) + [("open", [MOVE], [])]
        need_refused(self, BadSheet, Sheet, wrong)
        self.assertEqual(CUES + [("open", [MOVE], [])], wrong)

    def test_one_list_for_several_cues(self):
        moves, followers = [MOVE], [("b", 1)]
        sheet = Sheet([("a", moves, followers), ("b", moves, followers)])
        sheet.moves("a").clear()
        sheet.cues()[0][2].clear()
        self.assertEqual([("a", [MOVE], [("b", 1)]), ("b", [MOVE], [("b", 1)])], sheet.cues())

    def test_text(self):
        self.assertEqual(TEXT, self.sheet.text())
        self.assertEqual(TEXT, self.sheet.text())


class WrongTest(unittest.TestCase):
    def need_bad(self, cues):
        need_refused(self, BadSheet, Sheet, cues)

    def need_bad_cue(self, cue):
        self.need_bad([cue])
        self.need_bad([("a", [MOVE], []), cue])
        self.need_bad([cue, ("a", [MOVE], [])])
        self.need_bad([("a", [MOVE], [])] + [(name, [MOVE], []) for name in NAMES[1:11]] + [cue])

    def need_bad_moves(self, moves):
        self.need_bad_cue(("cue", moves, []))
        self.need_bad_cue(("cue", moves, [("cue", 5)]))

    def need_bad_followers(self, followers):
        self.need_bad_cue(("cue", [MOVE], followers))

    def test_how_many_cues(self):
        cues = [(name, [MOVE], []) for name in NAMES]
        for many in range(1, 13):
            self.assertEqual(NAMES[:many], Sheet(cues[:many]).names())
        self.need_bad([])
        self.need_bad(cues)
        self.need_bad(cues * 4)

    def test_how_many_moves(self):
        moves = [(name, 0, 0) for name in NAMES[:7]]
        for many in range(1, 7):
            self.assertEqual(moves[:many], Sheet([("a", moves[:many], [])]).moves("a"))
        self.need_bad_moves([])
        self.need_bad_moves(moves)

    def test_how_many_followers(self):
        followers = [(name, 0) for name in NAMES[:4]]
        for many in range(4):
            self.assertEqual(followers[:many], Sheet([("a", [MOVE], followers[:many])]).followers("a"))
        self.need_bad_followers(followers)
        self.need_bad_followers(followers[:1] * 4)

    def test_cues_that_are_no_list(self):
        good = ("a", [MOVE], [])
        for thing in [good, (good,), {"a": good}, {0: good}, "a", TEXT, iter([good]), Sheet([good]), 0, 5] + NO_NUMBERS:
            self.need_bad(thing)

    def test_what_is_no_cue(self):
        for thing in [["cue", [MOVE], []], ("cue", [MOVE]), ("cue", [MOVE], [], []), ("cue",), "cue", "abc", b"abc",
                      {"cue": [MOVE]}, 0, 5] + NO_NUMBERS:
            self.need_bad_cue(thing)

    def test_names_of_cues(self):
        for name in ["a", "z", "abcdefgh", "cue", "move", "then"]:
            self.assertEqual([name], Sheet([(name, [MOVE], [])]).names())
        for name in NO_NAMES:
            self.need_bad_cue((name, [MOVE], []))

    def test_a_cues_name_twice(self):
        self.need_bad([("a", [MOVE], []), ("a", [MOVE], [])])
        self.need_bad([("a", [MOVE], []), ("b", [MOVE], []), ("a", [("other", 1, 1)], [])])

    def test_moves_that_are_no_list(self):
        for thing in [(MOVE,), MOVE, {MOVE}, {"cart": MOVE}, {0: MOVE}, "cart", iter([MOVE]), 0, 1] + NO_NUMBERS:
            self.need_bad_moves(thing)

    def test_what_is_no_move(self):
        for thing in [list(MOVE), MOVE[:2], MOVE + (0,), "abc", b"abc", {0: 1, 1: 1, 2: 1}, 0, 5] + NO_NUMBERS:
            self.need_bad_moves([thing])
            self.need_bad_moves([("b", 0, 0), thing])
            self.need_bad_moves([thing, ("b", 0, 0)])
            self.need_bad_moves([(name, 0, 0) for name in NAMES[:5]] + [thing])

    def test_names_of_machines(self):
        for name in NO_NAMES:
            self.need_bad_moves([(name, 0, 0)])
            self.need_bad_moves([MOVE, (name, 0, 0)])

    def test_goals_and_waits(self):
        for at, (least, most) in [(1, (-BILLION, BILLION)), (2, (0, 50))]:
            for thing in around(least, most):
                self.need_bad_moves([tuple(with_one(MOVE, at, thing))])
                self.need_bad_moves([("b", 0, 0), tuple(with_one(MOVE, at, thing))])
            for number in [least, most]:
                move = tuple(with_one(MOVE, at, number))
                self.assertEqual([move], Sheet([("a", [move], [])]).moves("a"))

    def test_a_machine_twice_in_a_cue(self):
        self.need_bad_moves([MOVE, MOVE])
        self.need_bad_moves([("cart", 1, 0), ("b", 0, 0), ("cart", 2, 50)])
        self.assertEqual(2, len(Sheet([("a", [MOVE], []), ("b", [MOVE], [])]).cues()))

    def test_followers_that_are_no_list(self):
        for thing in [(), (("a", 0),), ("a", 0), {("a", 0)}, {"a": 0}, {}, "", "a", iter([]), 0, None, False, Odd()]:
            self.need_bad_followers(thing)

    def test_what_is_no_follower(self):
        for thing in [["a", 0], ("a",), ("a", 0, 0), "ab", b"ab", {"a": 0, "b": 0}, {"a", "b"}, 0, 5] + NO_NUMBERS:
            self.need_bad_followers([thing])
            self.need_bad_followers([("a", 0), ("b", 5), thing])
            self.need_bad_followers([thing, ("a", 0)])

    def test_names_and_waits_of_followers(self):
        for name in NO_NAMES:
            self.need_bad_followers([(name, 0)])
            self.need_bad_followers([("a", 0), (name, 0)])
        for thing in around(0, 50):
            self.need_bad_followers([("a", thing)])
            self.need_bad_followers([("a", 0), ("a", 0), ("a", thing)])
        for number in [0, 1, 49, 50]:
            self.assertEqual([("b", number)], Sheet([("a", [MOVE], [("b", number)])]).followers("a"))

    def test_a_follower_twice_is_let_by(self):
        for followers in [[("b", 0), ("b", 0)], [("b", 0), ("b", 50), ("b", 0)], [("a", 5)] * 3]:
            self.assertEqual(followers, Sheet([("a", [MOVE], followers)]).followers("a"))

    def test_names_that_are_not_there_are_let_by(self):
        self.assertEqual([("nowhere", 5)], Sheet([("a", [("nobody", 5, 5)], [("nowhere", 5)])]).followers("a"))


class FitsTest(unittest.TestCase):
    def setUp(self):
        self.stage = Stage(2, {4: 50}, [
            wagon("cart", 0, 0, least=-5, greatest=10), line("cloth", 50, 1, least=-20, greatest=99),
            floor("disc", 0, 4), trap("hole", 0, 3, least=-5, greatest=0),
        ])

    def need_unfit(self, sheet):
        need_refused(self, BadSheet, sheet.fits, self.stage)

    def test_fits(self):
        self.assertIsNone(Sheet(CUES).fits(self.stage))
        sheet = Sheet(CUES)
        sheet.fits(self.stage)
        self.assertEqual(CUES, sheet.cues())

    def test_a_machine_that_is_not_there(self):
        for name in ["car", "carts", "open", "z"]:
            self.need_unfit(Sheet([("a", [(name, 0, 0)], [])]))
            self.need_unfit(Sheet([("a", [("cart", 0, 0), (name, 0, 0)], [])]))
            self.need_unfit(Sheet([("a", [("cart", 0, 0)], []), ("b", [(name, 0, 0)], [])]))

    def test_goals(self):
        bounds = {"cart": (-5, 10), "cloth": (-20, 99), "hole": (-5, 0), "disc": (-BILLION, BILLION)}
        for name, (least, greatest) in bounds.items():
            for goal in [least, greatest, 0]:
                self.assertIsNone(Sheet([("a", [(name, goal, 0)], [])]).fits(self.stage))
            if name != "disc":
                for goal in [least - 1, greatest + 1, -BILLION, BILLION]:
                    self.need_unfit(Sheet([("a", [(name, goal, 0)], [])]))
                    self.need_unfit(Sheet([("a", [("disc", 0, 0), (name, goal, 0)], [])]))
                    self.need_unfit(Sheet([("a", [("disc", 0, 0)], []), ("b", [(name, goal, 0)], [])]))

    def test_a_follower_that_is_no_cue(self):
        for name in ["z", "aa", "cart"]:
            self.need_unfit(chain(["a", name]))
            self.need_unfit(chain(["a", "b", name], ["b"]))
            self.need_unfit(chain(["a"], ["b", "a", "a", name]))

    def test_a_cue_that_comes_to_itself(self):
        self.need_unfit(chain(["a", "a"]))
        self.need_unfit(chain(["a"], ["b", "b"]))
        self.need_unfit(chain(["a", "b", "c", "a"], ["b"], ["c"]))
        self.need_unfit(chain(["a", "b"], ["b", "a"]))
        self.need_unfit(chain(["a", "b"], ["b", "c"], ["c", "b"]))
        self.need_unfit(chain(["a"], ["b", "c", "a"], ["c", "d"], ["d", "a", "a", "b"]))

    def test_all_cues_round(self):
        for many in range(1, 13):
            names = NAMES[:many]
            rows = [[name, names[(at + 1) % many]] for at, name in enumerate(names)]
            self.need_unfit(chain(*rows))
            self.need_unfit(chain(*reversed(rows)))
            rows[-1].pop()
            self.assertIsNone(chain(*rows).fits(self.stage))
            self.assertIsNone(chain(*reversed(rows)).fits(self.stage))

    def test_cues_that_meet_without_coming_round(self):
        self.assertIsNone(chain(["a", "b", "b", "b"], ["b"]).fits(self.stage))
        self.assertIsNone(chain(["a", "b", "c"], ["b", "d"], ["c", "d"], ["d"]).fits(self.stage))
        self.assertIsNone(chain(["d"], ["c", "d"], ["b", "d", "c"], ["a", "b", "c", "d"]).fits(self.stage))
        layers = [[name] + NAMES[at + 1:at + 4] for at, name in enumerate(NAMES[:12])]
        layers = [[name for name in row if name != "m"] for row in layers]
        self.assertIsNone(chain(*layers).fits(self.stage))

    def test_it_hangs_on_the_stage(self):
        sheet = Sheet([("a", [("cart", 10, 0)], [])])
        other = Stage(2, {}, [wagon("cart", 0, least=0, greatest=9)])
        need_refused(self, BadSheet, sheet.fits, other)
        self.assertIsNone(sheet.fits(self.stage))
        need_refused(self, BadSheet, sheet.fits, other)

    def test_what_is_no_stage(self):
        for thing in [self.stage.machines(), "room 1", Sheet(CUES), Stage, 5] + NO_NUMBERS:
            need_refused(self, BadSheet, Sheet(CUES).fits, thing)


class TextTest(unittest.TestCase):
    def need_row(self, row, *rows):
        self.assertEqual(row, need_refused(self, BadRow, read_sheet, "\n".join(rows)).row)

    def test_text_and_back(self):
        for text in TEXTS:
            sheet = read_sheet(text)
            self.assertIs(Sheet, type(sheet))
            self.assertEqual(text, sheet.text())
            self.assertEqual(text, Sheet(sheet.cues()).text())
            self.assertEqual(sheet.cues(), Sheet(sheet.cues()).cues())

    def test_what_it_tells(self):
        self.assertEqual(CUES, read_sheet(TEXT).cues())
        wanted = [("abcdefgh", [("zzzzzzzz", -BILLION, 50), ("y", BILLION, 0)], [("zzzzzzzz", 50), ("a", 0)])]
        self.assertEqual(wanted, read_sheet(BOUNDS).cues())

    def test_what_is_no_text(self):
        for thing in [5, 0, TEXT.encode(), [TEXT], (TEXT,), TEXT.split("\n"), Sheet(CUES)] + NO_NUMBERS:
            if not isinstance(thing, str):
                self.assertEqual(1, need_refused(self, BadRow, read_sheet, thing).row)

    def test_ends(self):
        self.need_row(1, "")
        self.need_row(1, "", "")
        self.need_row(2, "cue a")
        self.need_row(2, "cue a", "")
        self.need_row(4, "cue a", "move b 0 0", "cue b")
        self.need_row(5, "cue a", "move b 0 0", "then b 0", "cue b")
        for text in TEXTS:
            self.need_row(text.count("\n") + 2, text, "")
            self.need_row(text.count("\n") + 2, text, "", "")
            self.need_row(1, "", text)

    def test_the_first_row_is_a_cue(self):
        for row in ["move b 0 0", "then b 0", "room 1", "a", " ", "cue"]:
            self.need_row(1, row)
            self.need_row(1, row, "cue a", "move b 0 0")

    def test_anything_but_a_move_right_behind_a_cue(self):
        for row in ["then a 0", "cue b", "cue a", "", "move", "move b 0"]:
            self.need_row(2, "cue a", row)
            self.need_row(2, "cue a", row, "move b 0 0")
            self.need_row(4, "cue c", "move b 0 0", "cue a", row, "move b 0 0")

    def test_a_move_behind_a_follower(self):
        self.need_row(4, "cue a", "move b 0 0", "then a 0", "move c 0 0")
        self.need_row(5, "cue a", "move b 0 0", "then a 0", "then a 0", "move c 0 0")
        text = "cue a\nmove b 0 0\nthen a 0\ncue c\nmove c 0 0"
        self.assertEqual(text, read_sheet(text).text())

    def test_a_seventh_move(self):
        rows = ["cue a"] + [f"move {name} 0 0" for name in NAMES[:6]]
        self.assertEqual(6, len(read_sheet("\n".join(rows)).moves("a")))
        self.need_row(8, *rows, "move g 0 0")
        self.need_row(8, *rows, "move g 0 0", "cue")

    def test_a_fourth_follower(self):
        rows = ["cue a", "move b 0 0"] + ["then a 0"] * 3
        self.assertEqual([("a", 0)] * 3, read_sheet("\n".join(rows)).followers("a"))
        self.need_row(6, *rows, "then a 0")

    def test_a_thirteenth_cue(self):
        self.assertEqual(12, len(read_sheet(TWELVE).cues()))
        self.need_row(25, TWELVE, "cue m", "move a 0 0")
        self.need_row(25, TWELVE, "cue m")

    def test_a_cues_name_that_a_row_ahead_has(self):
        self.need_row(3, "cue a", "move b 0 0", "cue a", "move b 0 0")
        self.need_row(5, "cue a", "move b 0 0", "cue b", "move b 0 0", "cue a")

    def test_a_machine_that_its_cue_has_moved(self):
        self.need_row(3, "cue a", "move b 0 0", "move b 1 1")
        self.need_row(4, "cue a", "move b 0 0", "move c 0 0", "move b 1 1")
        text = "cue a\nmove b 0 0\ncue b\nmove b 0 0"
        self.assertEqual(text, read_sheet(text).text())

    def test_words(self):
        for name in ["", "abcdefghi", "A", "a1", "a:b", "1", "-"]:
            self.need_row(1, f"cue {name}", "move b 0 0")
            self.need_row(2, "cue a", f"move {name} 0 0")
            self.need_row(3, "cue a", "move b 0 0", f"then {name} 0")
        for row in ["cue", "cue  b", "cue b ", " cue b", "cue b b", "cue b 0", "Cue b", "cues b", "b", "", " "]:
            self.need_row(3, "cue a", "move b 0 0", row, "move b 0 0")
        for row in ["move c 0", "move c", "move", "move c 0 0 0", "move  c 0 0", "move c 0 0 ", " move c 0 0", "Move c 0 0",
                    "moves c 0 0", "move 0 c 0", "move c 0  0"]:
            self.need_row(3, "cue a", "move b 0 0", row)
            self.need_row(2, "cue a", row)
        for row in ["then b", "then", "then b 0 0", "then  b 0", "then b 0 ", " then b 0", "Then b 0", "then 0 b"]:
            self.need_row(3, "cue a", "move b 0 0", row)
            self.need_row(4, "cue a", "move b 0 0", "then b 0", row)

    def test_numbers(self):
        badly = ["", "x", "00", "-0", "+1", "05", "-05", "1.0", "1e1", "0x1", "--1", "-", "1-", "9" * 3900]
        for goal in badly + ["1000000001", "-1000000001"]:
            self.need_row(2, "cue a", f"move b {goal} 0")
        for wait in badly + ["-1", "51", "500"]:
            self.need_row(2, "cue a", f"move b 0 {wait}")
            self.need_row(3, "cue a", "move b 0 0", f"then a {wait}")
        for wait in [0, 50]:
            text = f"cue a\nmove b 0 {wait}\nthen a {wait}"
            self.assertEqual(text, read_sheet(text).text())

    def test_names_that_are_not_there_are_let_by(self):
        text = "cue a\nmove nobody 0 0\nthen nowhere 0\nthen a 0"
        self.assertEqual(text, read_sheet(text).text())

    def test_bent(self):
        bad = good = 0
        for text in TEXTS:
            for other in bent(text):
                wanted = first_bad_row(other)
                if wanted is None:
                    self.assertEqual(other, read_sheet(other).text())
                    good += 1
                else:
                    self.need_row(wanted, other)
                    bad += 1
        self.assertGreater(min(bad, good), 300)


if __name__ == "__main__":
    unittest.main()
