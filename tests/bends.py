"""Texts bent in each row: what both readers of texts are tried with."""

# Words that stand for a number, or nearly so.
NUMBERS = [
    "0", "1", "-1", "00", "01", "-0", "-01", "+1", "1.0", "1e3", "1_0", "0x1", "--1", "-", "", "x", "7", "8", "9", "10",
    "50", "51", "719", "720", "721", "1000", "1001", "1000000", "1000001", "1000000000", "1000000001", "-1000000000",
    "-1000000001", "99999999999", "9" * 3000,
]
# Words that stand for a name, or nearly so.
WORDS = [
    "a", "zzzzzzzz", "zzzzzzzzz", "A", "a1", "a:b", "room", "ring", "line", "wagon", "floor", "trap", "cue", "move",
    "then", "Line", "lines", "0:1:1", "719:1:1", "0:1", "0:1:1:1", ":1:1", "0::1", "0:1:", "00:1:1", "0:01:1",
    "-1:1:1", "0:0:1", "0:1:0", "0:1000001:1", "0:1:1000000", "0:1:1000001", "720:1:1",
]
# Whole rows that may be put anywhere.
ROWS = [
    "", " ", "room 5", "ring 9 50", "ring 0 8", "line odd 0 9 1 1 9 8 0 1 1", "wagon odd 0 9 1 1 9 8 1 1",
    "trap odd 0 9 1 1 9 8 0 1", "floor odd 0 9 1 1 9 8 0:1:1", "line", "cue odd", "move odd 0 0", "then odd 0", "cue",
]


def bent(text):
    """Many texts, each of which is the text bent in one way."""
    rows = text.split("\n")
    for at, row in enumerate(rows):
        yield from [joined(each) for each in rows_moved(rows, at)]
        yield from [joined([*rows[:at], other, *rows[at + 1:]]) for other in row_bent(row)]
        yield from [joined(rows[:at]), joined(rows[:at]) + "\n", joined(rows[at:])]
    for at in range(len(rows) + 1):
        yield from [joined([*rows[:at], other, *rows[at:]]) for other in ROWS]
    yield from ["\n" + text, text + "\n", text + "\n\n", text + " ", " " + text, "", "\n", text + "\n" + text]


def joined(rows):
    return "\n".join(rows)


def rows_moved(rows, at):
    """The rows with one left out, told twice, exchanged with each other one, put elsewhere."""
    rest = rows[:at] + rows[at + 1:]
    yield rest
    yield [*rows[:at], rows[at], *rows[at:]]
    for other in range(len(rows)):
        yield [*rest[:other], rows[at], *rest[other:]]
        swapped = list(rows)
        swapped[at], swapped[other] = rows[other], rows[at]
        yield swapped


def row_bent(row):
    """The row with a word more, fewer, another; with blanks more; with line ends and other signs."""
    words = row.split(" ")
    yield from [" " + row, row + " ", row.upper(), row.replace(" ", ""), row.replace(" ", ","), row + ".", row + row]
    for at, word in enumerate(words):
        ahead, behind = words[:at], words[at + 1:]
        yield " ".join(ahead + behind)
        yield " ".join([*ahead, word, word, *behind])
        yield " ".join([*ahead, "", word, *behind])
        yield " ".join(ahead) + "\n" + " ".join([word, *behind])
        for other in NUMBERS + WORDS + near_numbers(word):
            yield " ".join([*ahead, other, *behind])


def near_numbers(word):
    """A number's neighbours, and other ways to write it."""
    if not word.lstrip("-").isdigit():
        return []
    return [str(int(word) - 1), str(int(word) + 1), "0" + word, "+" + word, "-" + word, word + " ", word + "0"]
