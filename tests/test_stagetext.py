"""Points 1 and 7, and the interface of flywright/stagetext.py."""

import itertools
import re
import unittest

from bends import bent
from flywright.errors import BadRow, BadStage
from flywright.machines import Floor, Line, Trap, Wagon
from flywright.stage import Stage
from flywright.stagetext import read_stage, stage_text
from helpers import BILLION, MILLION, NO_NUMBERS, floor, line, need_refused, trap, wagon

ALL_KINDS = "\n".join([
    "room 5",
    "ring 2 100",
    "ring 4 8",
    "line cloth 0 100 5 1 80 2 -4 12 3",
    "floor disc -720 720 4 2 0 4 0:2:5 7:1:1",
    "wagon cart -50 50 3 1 0 0 10 4",
    "trap hole -20 0 1 1 0 0 30 8",
])
EIGHT = "\n".join(["room 1"] + [f"line {name} 0 9 1 1 5 {lane} 0 1 1" for lane, name in enumerate("abcdefgh")])
FOUR_WALLS = "room 1000\nring 9 720\nfloor f 0 0 1 1 0 9 0:1:1 719:720:1000000 5:5:5 6:6:6"
ALONE = "room 1\ntrap t -1 0 1 1 -1 0 0 1"
TEXTS = [ALL_KINDS, EIGHT, FOUR_WALLS, ALONE]

NUMBER = r"(0|-?[1-9][0-9]*)"
MACHINE = re.compile(rf"(line|wagon|floor|trap) ([a-z]{{1,8}})((?: {NUMBER}){{6}})(.*)")
TAILS = {"line": rf"( {NUMBER}){{3}}", "wagon": rf"( {NUMBER}){{2}}", "trap": rf"( {NUMBER}){{2}}",
         "floor": rf"( {NUMBER}:{NUMBER}:{NUMBER}){{1,4}}"}


def first_bad_row(text):
    """The first row that can't stand there, told by another, plainer reader; None where each can."""
    rows = text.split("\n")
    if not re.fullmatch(f"room {NUMBER}", rows[0]) or not 1 <= int(rows[0][5:]) <= 1000:
        return 1
    rings, names = {}, []
    for at, row in enumerate(rows[1:], start=2):
        ring = re.fullmatch(f"ring {NUMBER} {NUMBER}", row)
        if ring and not names:
            lane, length = int(ring[1]), int(ring[2])
            if not max([-1, *rings]) < lane <= 9 or not 8 <= length <= 720:
                return at
            rings[lane] = length
        elif len(names) == 8 or not is_machine(row, rings) or row.split(" ")[1] in names:
            return at
        else:
            names.append(row.split(" ")[1])
    return None if names else len(rows) + 1


def is_machine(row, rings):
    found = MACHINE.fullmatch(row)
    if not found or not re.fullmatch(TAILS[found[1]], found[5]):
        return False
    least, greatest, pace, gain, place, lane = [int(word) for word in found[3].split()]
    if not -BILLION <= least <= place <= greatest <= BILLION or not 0 <= lane <= 9:
        return False
    if not 1 <= min(pace, gain) <= max(pace, gain) <= BILLION:
        return False
    length = rings.get(lane, MILLION)
    if found[1] == "floor":
        walls = [[int(part) for part in word.split(":")] for word in found[5].split()]
        return lane in rings and all(
            0 <= offset < length and 1 <= wide <= length and 1 <= tall <= MILLION for offset, wide, tall in walls
        )
    told = [int(word) for word in found[5].split()]
    if found[1] != "wagon":
        if not -BILLION <= told.pop(0) <= BILLION:
            return False
    return 1 <= told[0] <= length and all(1 <= size <= MILLION for size in told)


def begins_near(text):
    """Whether two machines of a good text are too near where they begin, by the words of the document."""
    rows = text.split("\n")
    heads = [row for row in rows if row.startswith("r")]
    stages = [read_stage("\n".join([*heads, row])) for row in rows[len(heads):]]
    return any(are_near(one, other) for one, other in itertools.combinations(stages, 2))


def are_near(one, other):
    """Whether the only machines of two stages are too near where they begin."""
    (first,), (second,) = one.machines(), other.machines()
    if first.kind() == second.kind() == "trap" or first.lane() != second.lane():
        return False
    length = one.rings().get(first.lane())
    for box, against in itertools.product(first.boxes(first.place), second.boxes(second.place)):
        along = gap_of(box[1], box[2], against[1], against[2], length)
        if along < one.room and gap_of(box[3], box[4], against[3], against[4], None) < one.room:
            return True
    return False


def gap_of(a, long, b, far, length):
    if length is None:
        return max(0, b - a - long, a - b - far)
    forth, back = (b - a) % length, (a - b) % length
    return 0 if forth < long or back < far else min(forth - long, back - far)


def bad_row(test, text):
    """The row that a text is refused for."""
    return need_refused(test, BadRow, read_stage, text).row


def told(stage):
    return stage.room, stage.rings(), [(type(machine), machine.words()) for machine in stage.machines()]


class WriteTest(unittest.TestCase):
    def test_each_kind(self):
        machines = [
            Line("cloth", 0, 100, 5, 1, 80, 2, -4, 12, 3), Floor("disc", -720, 720, 4, 2, 0, 4, [(0, 2, 5), (7, 1, 1)]),
            Wagon("cart", -50, 50, 3, 1, 0, 0, 10, 4), Trap("hole", -20, 0, 1, 1, 0, 0, 30, 8),
        ]
        self.assertEqual(ALL_KINDS, stage_text(Stage(5, {2: 100, 4: 8}, machines)))

    def test_rings_by_rising_lanes(self):
        lengths = {0: 8, 3: 720, 5: 9, 9: 100}
        for order in itertools.permutations(lengths):
            stage = Stage(1, {lane: lengths[lane] for lane in order}, [line("a", 0)])
            rows = stage_text(stage).split("\n")
            self.assertEqual(["room 1", "ring 0 8", "ring 3 720", "ring 5 9", "ring 9 100"], rows[:5])

    def test_machines_in_order(self):
        machines = [wagon("c", 0, 0), wagon("a", 0, 1), wagon("d", 0, 2), wagon("b", 0, 3)]
        for order in itertools.permutations(machines):
            rows = stage_text(Stage(1, {}, list(order))).split("\n")
            self.assertEqual([machine.words() for machine in order], rows[1:])

    def test_the_same_each_time(self):
        stage = Stage(3, {7: 20}, [floor("a", 0, 7), trap("b", 0)])
        first = stage_text(stage)
        stage.rings().clear()
        stage.machines().clear()
        self.assertEqual(first, stage_text(stage))


class ReadTest(unittest.TestCase):
    def test_text_and_back(self):
        for text in TEXTS:
            self.assertEqual(text, stage_text(read_stage(text)))

    def test_what_it_tells(self):
        stage = read_stage(ALL_KINDS)
        self.assertIs(Stage, type(stage))
        self.assertEqual((5, {2: 100, 4: 8}), (stage.room, stage.rings()))
        wanted = [("cloth", "line"), ("disc", "floor"), ("cart", "wagon"), ("hole", "trap")]
        self.assertEqual(wanted, [(machine.name, machine.kind()) for machine in stage.machines()])
        disc = stage.machine("disc")
        self.assertEqual((-720, 720, 4, 2, 0), (disc.least, disc.greatest, disc.pace, disc.gain, disc.place))
        self.assertEqual([(4, 0, 2, 0, 5), (4, 7, 1, 0, 1)], disc.boxes(0))
        self.assertEqual([(2, -4, 12, 80, 3)], stage.machine("cloth").boxes(80))
        self.assertEqual([(0, 9, 10, 0, 4)], stage.machine("cart").boxes(9))
        self.assertEqual([(0, 30, 8, 0, 1)], stage.machine("hole").boxes(-1))

    def test_stages_with_numbers_at_their_bounds(self):
        low, high = -BILLION, BILLION
        stages = [
            Stage(1, {}, [Line("a", low, high, high, high, low, 0, low, MILLION, MILLION)]),
            Stage(1000, {}, [Line("abcdefgh", high, high, 1, 1, high, 9, high, 1, 1)]),
            Stage(1000, {0: 8, 9: 720}, [Wagon("z", low, low, 1, high, low, 9, 720, MILLION)]),
            Stage(1, {0: 8}, [Wagon("z", 0, 0, high, 1, 0, 1, MILLION, 1), Trap("y", -1, 0, 1, 1, 0, 0, low, 8)]),
            Stage(1, {}, [Trap("q", low, high, 1, 1, low, 9, high, MILLION)]),
            Stage(1, {0: 8}, [Floor("f", low, high, 1, 1, high, 0, [(7, 8, MILLION)])]),
            Stage(1, {9: 720}, [Floor("f", low, high, 1, 1, low, 9, [(719, 720, 1), (0, 1, 1), (1, 1, 1), (2, 2, 2)])]),
        ]
        for stage in stages:
            again = read_stage(stage_text(stage))
            self.assertEqual(told(stage), told(again))
            self.assertEqual(stage_text(stage), stage_text(again))

    def test_ten_rings(self):
        rows = ["room 1"] + [f"ring {lane} {8 + lane}" for lane in range(10)] + ["line a 0 0 1 1 0 0 0 1 1"]
        text = "\n".join(rows)
        self.assertEqual({lane: 8 + lane for lane in range(10)}, read_stage(text).rings())
        self.assertEqual(text, stage_text(read_stage(text)))

    def test_two_of_one_text_are_apart(self):
        one, other = read_stage(ALL_KINDS), read_stage(ALL_KINDS)
        one.rings().clear()
        one.machines().clear()
        self.assertEqual(told(one), told(other))


class BadRowTest(unittest.TestCase):
    def need_row(self, row, *rows):
        self.assertEqual(row, bad_row(self, "\n".join(rows)))

    def test_what_is_no_text(self):
        for thing in [5, 0, b"room 1", [ALONE], (ALONE,), ALONE.encode(), ALONE.split("\n")] + NO_NUMBERS:
            if not isinstance(thing, str):
                self.assertEqual(1, bad_row(self, thing))

    def test_room(self):
        machine = "trap t -1 0 1 1 -1 0 0 1"
        for room in ["1", "1000"]:
            self.assertEqual(int(room), read_stage(f"room {room}\n{machine}").room)
        for room in ["0", "-1", "1001", "01", "+1", "-0", "1.0", "", "x", " 1", "1 ", "1 1", "9" * 3900]:
            self.need_row(1, f"room {room}", machine)
        for row in ["", "room", "Room 1", "rooms 1", "1", "1 room", " room 1", "room 1 ", "room  1", "ring 0 8"]:
            self.need_row(1, row, machine)
        self.need_row(1, machine)
        self.need_row(1, machine, "room 1")
        self.need_row(2, "room 1", "room 1", machine)
        self.need_row(3, "room 1", machine, "room 1")

    def test_ends_without_a_machine(self):
        self.need_row(2, "room 1")
        self.need_row(3, "room 1", "ring 0 8")
        self.need_row(4, "room 1", "ring 0 8", "ring 9 720")
        self.need_row(1, "")
        self.need_row(1, "", "")
        self.need_row(2, "room 1", "")
        self.need_row(3, "room 1", "ring 0 8", "")

    def test_a_line_end_behind_the_last_row(self):
        for text in TEXTS:
            self.assertEqual(text.count("\n") + 2, bad_row(self, text + "\n"))
            self.assertEqual(text.count("\n") + 2, bad_row(self, text + "\n\n"))
            self.assertEqual(1, bad_row(self, "\n" + text))

    def test_rings(self):
        machine = "line a 0 0 1 1 0 0 0 1 1"
        for row in ["ring 0 8", "ring 9 720"]:
            self.assertEqual(1, len(read_stage(f"room 1\n{row}\n{machine}").rings()))
        for row in ["ring -1 8", "ring 10 8", "ring 0 7", "ring 0 721", "ring 00 8", "ring 0 08", "ring -0 8", "ring 0 +8",
                    "ring 0", "ring", "ring 0 8 8", "ring  0 8", "ring 0  8", " ring 0 8", "ring 0 8 ", "ring x 8",
                    "ring 0 x", "ring 0:8", "Ring 0 8", "rings 0 8"]:
            self.need_row(2, "room 1", row, machine)
            self.need_row(2, "room 1", row)
            self.need_row(3, "room 1", "ring 0 9", row, machine)

    def test_lanes_rise(self):
        machine = "line a 0 0 1 1 0 0 0 1 1"
        self.need_row(3, "room 1", "ring 4 8", "ring 4 8", machine)
        self.need_row(3, "room 1", "ring 4 8", "ring 3 8", machine)
        self.need_row(4, "room 1", "ring 0 8", "ring 9 8", "ring 5 8", machine)
        self.need_row(4, "room 1", "ring 0 8", "ring 9 8", "ring 0 8", machine)
        self.assertEqual({3: 8, 4: 8}, read_stage(f"room 1\nring 3 8\nring 4 8\n{machine}").rings())

    def test_a_ring_behind_a_machine(self):
        machine = "line a 0 0 1 1 0 0 0 1 1"
        self.need_row(3, "room 1", machine, "ring 0 8")
        self.need_row(4, "room 1", "ring 0 8", machine, "ring 1 8")
        self.need_row(3, "room 1", machine, "ring 0 8", "line b 0 0 1 1 0 1 0 1 1")

    def test_a_ninth_machine(self):
        self.assertEqual(8, len(read_stage(EIGHT).machines()))
        self.need_row(10, EIGHT, "line i 0 9 1 1 5 8 0 1 1")
        self.need_row(10, EIGHT, "line i 0 9 1 1 5 8 0 1 1", "line")
        self.need_row(9, *EIGHT.split("\n")[:8], "line", "line i 0 9 1 1 5 8 0 1 1")

    def test_a_name_that_a_row_ahead_has(self):
        first = ["room 1", "ring 5 50", "line a 0 0 1 1 0 0 0 1 1", "wagon b 0 0 1 1 0 1 1 1"]
        for name in ["a", "b"]:
            for row in [f"line {name} 0 0 1 1 0 2 0 1 1", f"wagon {name} 0 0 1 1 0 2 1 1",
                        f"trap {name} 0 0 1 1 0 2 0 1", f"floor {name} 0 0 1 1 0 5 0:1:1"]:
                self.need_row(5, *first, row)
                self.need_row(6, *first, "trap c 0 0 1 1 0 0 0 1", row)
                self.assertEqual(3, len(read_stage("\n".join([*first, row.replace(f" {name} ", " c ")])).machines()))

    def test_names(self):
        for name in ["", "abcdefghi", "A", "a1", "a-", "1", "a:b"]:
            for row in ["line NAME 0 0 1 1 0 2 0 1 1", "wagon NAME 0 0 1 1 0 2 1 1", "trap NAME 0 0 1 1 0 2 0 1",
                        "floor NAME 0 0 1 1 0 0 0:1:1"]:
                self.need_row(3, "room 1", "ring 0 8", row.replace("NAME", name))
                self.assertEqual("line", read_stage("\n".join(["room 1", "ring 0 8", row.replace("NAME", "line")]))
                                 .machines()[0].name)

    def test_words_of_a_machine(self):
        rows = ["line a 0 0 1 1 0 2 0 1 1", "wagon a 0 0 1 1 0 2 1 1", "trap a 0 0 1 1 0 2 0 1", "floor a 0 0 1 1 0 0 0:1:1"]
        for row in rows:
            words = row.split(" ")
            for at in range(len(words)):
                self.need_row(3, "room 1", "ring 0 8", " ".join(words[:at] + words[at + 1:]))
                self.need_row(3, "room 1", "ring 0 8", " ".join(words[:at] + [""] + words[at:]))
                self.need_row(3, "room 1", "ring 0 8", " ".join(words[:at]))
            for wrong in [" " + row, row + " ", row + " 1", row + " x", row.upper(), row.replace(" ", "  ")]:
                self.need_row(3, "room 1", "ring 0 8", wrong)
        for kind in ["", "Line", "lines", "machine", "lift", "cue", "room", "0"]:
            self.need_row(2, "room 1", f"{kind} a 0 0 1 1 0 2 0 1 1")

    def test_numbers_of_a_machine(self):
        low, high = -BILLION, BILLION
        row = "line a LEAST GREATEST PACE GAIN PLACE LANE AT WIDE TALL"
        good = {"LEAST": 0, "GREATEST": 9, "PACE": 1, "GAIN": 1, "PLACE": 5, "LANE": 2, "AT": 0, "WIDE": 1, "TALL": 1}
        bounds = {"LEAST": (low, 5), "GREATEST": (5, high), "PACE": (1, high), "GAIN": (1, high), "PLACE": (0, 9),
                  "LANE": (0, 9), "AT": (low, high), "WIDE": (1, MILLION), "TALL": (1, MILLION)}
        for word, (least, most) in bounds.items():
            for number in [least, most]:
                text = "room 1\n" + filled(row, {**good, word: number})
                self.assertEqual(text, stage_text(read_stage(text)))
            wrong = [least - 1, most + 1, "", "x", "00", "-0", "+1", "05", "-05", "1.0", "1e1", "0x1", "--1", "-", "1-"]
            for thing in wrong:
                self.need_row(2, "room 1", filled(row, {**good, word: thing}))

    def test_walls(self):
        row = "floor a 0 0 1 1 0 0"
        for walls in ["", " 0", " 0:1", " 0:1:1:1", " :1:1", " 0::1", " 0:1:", " 00:1:1", " 0:01:1", " 0:1:01", " -1:1:1",
                      " -0:1:1", " 0:0:1", " 0:1:0", " 0:1:1000001", " 0:9:1", " 8:1:1", " 0:1:1 8:1:1", " 0:1:1 1",
                      " 0:1:1 0:9:1", " 0:1:1:", " 0:1:1,1:1:1", " 0: 1:1", " 719:1:1", " 720:1:1"]:
            self.need_row(3, "room 1", "ring 0 8", row + walls)
            self.need_row(4, "room 1", "ring 0 8", "line b 0 0 1 1 0 1 0 1 1", row + walls)
        for many in range(1, 5):
            text = "\n".join(["room 1", "ring 0 8", row + " 7:8:1000000" * many])
            self.assertEqual(text, stage_text(read_stage(text)))
        self.need_row(3, "room 1", "ring 0 8", row + " 0:1:1" * 5)
        self.need_row(3, "room 1", "ring 0 8", row + " 0:1:1" * 9)

    def test_a_floor_without_a_ring(self):
        row = "floor a 0 0 1 1 0 3 0:1:1"
        self.need_row(2, "room 1", row)
        self.need_row(4, "room 1", "ring 2 8", "ring 4 8", row)
        self.need_row(2, "room 1", row, "ring 3 8")
        self.assertEqual(3, read_stage(f"room 1\nring 3 8\n{row}").machine("a").lane())

    def test_something_wider_than_its_ring(self):
        for length in [8, 720]:
            rows = ["line a 0 0 1 1 0 3 0 WIDE 1", "wagon a 0 0 1 1 0 3 WIDE 1", "trap a 0 0 1 1 0 3 0 WIDE",
                    "floor a 0 0 1 1 0 3 0:WIDE:1", "floor a 0 0 1 1 0 3 0:1:1 1:WIDE:1"]
            for row in rows:
                good = filled(row, {"WIDE": length})
                self.assertEqual(length, read_stage(f"room 1\nring 3 {length}\n{good}").machine("a").wide())
                self.need_row(3, "room 1", f"ring 3 {length}", filled(row, {"WIDE": length + 1}))

    def test_the_first_row_is_told(self):
        self.need_row(2, "room 1", "line", "line", "ring 0 8")
        self.need_row(1, "room 0", "line", "line")
        self.need_row(3, "room 1", "line a 0 0 1 1 0 0 0 1 1", "ring 0 8", "wagon", "")
        # The row without a machine's number stands ahead of the one that isn't there.
        self.need_row(2, "room 1", "ring 0 7")


def filled(row, things):
    return " ".join([str(things.get(word, word)) for word in row.replace(":", " : ").split(" ")]).replace(" : ", ":")


class TooNearTest(unittest.TestCase):
    NEAR = ["room 5", "wagon a 0 9 1 1 0 0 1 1", "wagon b 0 99 1 1 5 0 1 1"]

    def test_too_near_where_they_begin(self):
        need_refused(self, BadStage, read_stage, "\n".join(self.NEAR))
        far = "\n".join(self.NEAR).replace(" 5 0 1 1", " 6 0 1 1")
        self.assertEqual(far, stage_text(read_stage(far)))
        need_refused(self, BadStage, read_stage, "room 1\nring 0 8\nline a 0 0 1 1 0 0 7 1 1\nwagon b 8 8 1 1 8 0 1 1")

    def test_a_row_comes_ahead_of_it(self):
        self.assertEqual(4, bad_row(self, "\n".join([*self.NEAR, "line"])))
        self.assertEqual(4, bad_row(self, "\n".join([*self.NEAR, ""])))
        self.assertEqual(4, bad_row(self, "\n".join([*self.NEAR, "ring 0 8"])))
        self.assertEqual(4, bad_row(self, "\n".join([*self.NEAR, "trap a 0 0 1 1 0 5 0 1"])))


class BentTest(unittest.TestCase):
    """Each text, bent in each row in many ways, held against the plainer reader."""

    def test_bent(self):
        counts = {"bad": 0, "near": 0, "good": 0}
        for text in TEXTS:
            for other in bent(text):
                counts[self.outcome(other)] += 1
        self.assertGreater(min(counts["bad"], counts["good"]), 300)
        self.assertGreater(counts["near"], 10)

    def outcome(self, text):
        wanted = first_bad_row(text)
        if wanted is not None:
            self.assertEqual(wanted, bad_row(self, text), text)
            return "bad"
        if begins_near(text):
            need_refused(self, BadStage, read_stage, text)
            return "near"
        self.assertEqual(text, stage_text(read_stage(text)))
        return "good"


if __name__ == "__main__":
    unittest.main()
