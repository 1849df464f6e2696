"""What several tests need: things that are no numbers and no names, good machines, how a refusal is looked at."""

from flywright import errors
from flywright.machines import Floor, Line, Trap, Wagon

BILLION = 10 ** 9
MILLION = 10 ** 6

KINDS = [
    errors.BadNumber, errors.BadName, errors.BadStage, errors.BadSheet, errors.TooLong, errors.Busy,
    errors.TooNear, errors.Stopped, errors.NotStopped, errors.Moving, errors.NoCue, errors.BadRow,
]


class Odd:
    """A thing that can neither be compared nor hashed nor counted."""

    __hash__ = None

    def __eq__(self, other):
        raise AssertionError("compared")

    def __lt__(self, other):
        raise AssertionError("compared")

    __le__ = __gt__ = __ge__ = __ne__ = __lt__

    def __len__(self):
        raise AssertionError("counted")

    def __bool__(self):
        raise AssertionError("asked for its truth")


NO_NUMBERS = [
    True, False, None, "", "5", "five", b"5", [], [5], (), (5,), {}, {5: 5}, {5}, frozenset([5]), object(), Odd(),
    int, len, range(5), Ellipsis, lambda: 5,
]

NO_NAMES = [
    "", "abcdefghi", "A", "aB", "a1", "1", "a b", " a", "a ", "a-b", "a_b", "a\n", "`", "{", "a" * 4000,
    None, True, False, 0, 5, b"a", [], ["a"], ("a",), {}, {"a": 1}, {"a"}, object(), Odd(), str,
]


def around(least, most):
    """What isn't a number from the least to the most: just beyond, far beyond, and no number at all."""
    return [least - 1, most + 1, least - 10 ** 30, most + 10 ** 30] + NO_NUMBERS


def need_refused(test, kind, act, *told, **more):
    """That it is refused with just this kind of error."""
    with test.assertRaises(errors.StageError) as caught:
        act(*told, **more)
    test.assertIsInstance(caught.exception, ValueError)
    test.assertEqual([kind], [other for other in KINDS if isinstance(caught.exception, other)])
    return caught.exception


def with_one(told, at, thing):
    """The arguments with another thing at one place."""
    return [*told[:at], thing, *told[at + 1:]]


def line(name, place, lane=0, at=0, wide=1, tall=1, least=-BILLION, greatest=BILLION):
    return Line(name, least, greatest, 5, 1, place, lane, at, wide, tall)


def wagon(name, place, lane=0, wide=1, tall=1, least=-BILLION, greatest=BILLION):
    return Wagon(name, least, greatest, 5, 1, place, lane, wide, tall)


def trap(name, place, lane=0, at=0, wide=1, least=-BILLION, greatest=BILLION):
    return Trap(name, least, greatest, 5, 1, place, lane, at, wide)


def floor(name, place, lane=0, walls=((0, 1, 1),), least=-BILLION, greatest=BILLION):
    return Floor(name, least, greatest, 5, 1, place, lane, list(walls))
