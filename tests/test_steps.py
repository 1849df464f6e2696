"""Points 2 and 3, and the interface of flywright/steps.py."""

import unittest

from flywright.errors import BadNumber, TooLong
from flywright.steps import braked, is_whole, reach, steps_of
from helpers import NO_NUMBERS, Odd, around, need_refused, with_one

BILLION = 10 ** 9
FARTHEST = 10 ** 12


def searched(distance, pace, gain):
    """The row that point 2 tells, by trying all rows of rising lengths, the greatest ones first."""
    many = 0
    while True:
        found = row_of(many, 0, distance, pace, gain)
        if found is not None:
            return found
        many += 1


def row_of(many, ahead, left, pace, gain):
    """The greatest row of so many steps behind the one ahead that sums to what is left, or None."""
    if many == 0:
        return [] if left == 0 and ahead <= gain else None
    for step in range(min(pace, ahead + gain, left), max(1, ahead - gain) - 1, -1):
        rest = row_of(many - 1, step, left - step, pace, gain)
        if rest is not None:
            return [step] + rest
    return None


def greatest_sum(many, pace, gain):
    """The sum of the row that rises from both ends by the gain, up to the pace."""
    return sum(min(pace, gain * (at + 1), gain * (many - at)) for at in range(many))


def can_end(ahead, many, left, pace, gain):
    """Whether so many steps behind the one ahead can sum to what is left."""
    lows = [max(1, ahead - gain * at) for at in range(1, many + 1)]
    highs = [min(pace, ahead + gain * at, gain * (many + 1 - at)) for at in range(1, many + 1)]
    fits = ahead <= gain * (many + 1) and all(low <= high for low, high in zip(lows, highs))
    return fits and sum(lows) <= left <= sum(highs)


class IsWholeTest(unittest.TestCase):
    def test_numbers(self):
        for thing, wanted in [(-4, False), (-3, True), (0, True), (5, True), (6, False)]:
            self.assertIs(wanted, is_whole(thing, -3, 5), thing)

    def test_one_number_and_none(self):
        self.assertIs(True, is_whole(7, 7, 7))
        self.assertIs(False, is_whole(7, 8, 6))

    def test_great_numbers(self):
        self.assertIs(True, is_whole(10 ** 40, 0, 10 ** 40))
        self.assertIs(False, is_whole(10 ** 40 + 1, 0, 10 ** 40))
        self.assertIs(False, is_whole(-10 ** 40, -BILLION, BILLION))

    def test_anything_else(self):
        for thing in NO_NUMBERS:
            self.assertIs(False, is_whole(thing, -10, 10), repr(thing))


class StepsTest(unittest.TestCase):
    def need_row(self, distance, pace, gain):
        """That the told row is the one that point 2 tells, by its properties one by one."""
        steps = steps_of(distance, pace, gain)
        told = (distance, pace, gain)
        self.assertIsInstance(steps, list)
        self.assertEqual(distance, sum(steps), told)
        self.assertLessEqual(len(steps), 200, told)
        if distance == 0:
            self.assertEqual([], steps)
            return
        for step in steps:
            self.assertIs(int, type(step))
            self.assertTrue(1 <= step <= pace, told)
        for one, other in zip([0] + steps, steps + [0]):
            self.assertLessEqual(abs(one - other), gain, told)
        self.assertLess(greatest_sum(len(steps) - 1, pace, gain), distance, told)
        self.need_greatest(steps, pace, gain)

    def need_greatest(self, steps, pace, gain):
        """That no step can be more by one with the steps ahead of it as they are, so by more neither."""
        left = sum(steps)
        ahead = 0
        for at, step in enumerate(steps):
            more = step + 1
            if more <= min(pace, ahead + gain):
                self.assertFalse(can_end(more, len(steps) - at - 1, left - more, pace, gain), (steps, at))
            left -= step
            ahead = step

    def test_all_small_ones_by_search(self):
        for pace in range(1, 8):
            for gain in range(1, 8):
                for distance in range(21):
                    wanted = searched(distance, pace, gain)
                    self.assertEqual(wanted, steps_of(distance, pace, gain), (distance, pace, gain))

    def test_rows_by_hand(self):
        self.assertEqual([], steps_of(0, 1, 1))
        self.assertEqual([1], steps_of(1, BILLION, BILLION))
        self.assertEqual([1, 1], steps_of(2, 9, 1))
        self.assertEqual([1, 2, 1], steps_of(4, 2, 1))
        self.assertEqual([1, 2, 1, 1], steps_of(5, 2, 1))
        self.assertEqual([1, 2, 3, 2, 1, 1], steps_of(10, 3, 1))
        self.assertEqual([3, 4, 1], steps_of(8, 9, 3))
        self.assertEqual([5, 5, 1], steps_of(11, 5, 7))

    def test_first_and_last_step_are_the_gain_at_the_most(self):
        self.assertEqual([2, 4, 2], steps_of(8, 10, 2))
        self.assertEqual([2, 1], steps_of(3, 10, 2))

    def test_middling_ones_by_their_properties(self):
        for pace in [1, 2, 3, 7, 10, 50, 99]:
            for gain in [1, 2, 3, 6, 7, 8, 49, 50, 98, 99, 100]:
                for distance in list(range(60)) + list(range(100, 1900, 131)):
                    if distance <= greatest_sum(200, pace, gain):
                        self.need_row(distance, pace, gain)

    def test_great_ones_by_their_properties(self):
        numbers = [1, 2, 997, 10 ** 6, 499999999, BILLION - 1, BILLION]
        for pace in numbers:
            for gain in numbers:
                most = greatest_sum(200, pace, gain)
                for distance in [0, 1, 2, pace, gain, pace + gain + 1, most // 3, most // 2 + 1, most - 1, most]:
                    self.need_row(min(distance, most), pace, gain)

    def test_at_below_and_above_each_reach(self):
        drives = [(1, 1), (2, 1), (7, 2), (100, 1), (BILLION, 1), (BILLION, 10 ** 7), (1, BILLION)]
        drives += [(BILLION, BILLION), (BILLION - 1, 7), (10 ** 5, 999)]
        for pace, gain in drives:
            for many in range(201):
                far = reach(many, pace, gain)
                self.assertEqual(many, len(steps_of(far, pace, gain)), (many, pace, gain))
                if many > 0:
                    less = len(steps_of(far - 1, pace, gain))
                    wanted = many if far - 1 > reach(many - 1, pace, gain) else many - 1
                    self.assertEqual(wanted, less, (many, pace, gain))
                if many < 200:
                    self.assertEqual(many + 1, len(steps_of(far + 1, pace, gain)), (many, pace, gain))
            need_refused(self, TooLong, steps_of, reach(200, pace, gain) + 1, pace, gain)

    def test_exactly_200_steps_and_one_more(self):
        self.assertEqual([1] * 200, steps_of(200, 1, 1))
        self.assertEqual([BILLION] * 200, steps_of(200 * BILLION, BILLION, BILLION))
        need_refused(self, TooLong, steps_of, 201, 1, 1)
        need_refused(self, TooLong, steps_of, 200 * BILLION + 1, BILLION, BILLION)
        wanted = list(range(1, 101)) + list(range(100, 0, -1))
        self.assertEqual(wanted, steps_of(10100, BILLION, 1))
        need_refused(self, TooLong, steps_of, 10101, BILLION, 1)

    def test_the_farthest_distance_is_a_number_but_too_long(self):
        for pace in [1, BILLION]:
            for gain in [1, BILLION]:
                need_refused(self, TooLong, steps_of, FARTHEST, pace, gain)

    def test_the_list_is_the_askers(self):
        first = steps_of(10, 3, 1)
        first[0] = 99
        first.append(7)
        self.assertEqual([1, 2, 3, 2, 1, 1], steps_of(10, 3, 1))
        none = steps_of(0, 3, 1)
        none.append(7)
        self.assertEqual([], steps_of(0, 3, 1))

    def test_wrong_numbers(self):
        bounds = [(0, FARTHEST), (1, BILLION), (1, BILLION)]
        # The second row is too long by itself, but a wrong number is told first.
        for good in [[10, 3, 1], [FARTHEST, 1, 1]]:
            for at, (least, most) in enumerate(bounds):
                for thing in around(least, most):
                    need_refused(self, BadNumber, steps_of, *with_one(good, at, thing))

    def test_all_wrong(self):
        need_refused(self, BadNumber, steps_of, Odd(), Odd(), Odd())


class ReachTest(unittest.TestCase):
    def test_small_ones_by_search(self):
        for pace in range(1, 6):
            for gain in range(1, 6):
                for many in range(6):
                    fits = [far for far in range(31) if row_of(many, 0, far, pace, gain) is not None]
                    self.assertEqual(max(fits), reach(many, pace, gain), (many, pace, gain))

    def test_from_0_to_200(self):
        for pace in [1, 2, 9, 100, 101, 10 ** 8, BILLION]:
            for gain in [1, 2, 3, 10 ** 7, BILLION]:
                for many in range(201):
                    self.assertEqual(greatest_sum(many, pace, gain), reach(many, pace, gain))

    def test_by_hand(self):
        self.assertEqual([0, 1, 2, 4, 6, 9, 12], [reach(many, 9, 1) for many in range(7)])
        self.assertEqual([0, 1, 2, 4, 6, 8, 10], [reach(many, 2, 1) for many in range(7)])
        self.assertEqual(200 * BILLION, reach(200, BILLION, BILLION))
        self.assertEqual(10100, reach(200, BILLION, 1))

    def test_wrong_numbers(self):
        bounds = [(0, 200), (1, BILLION), (1, BILLION)]
        for good in [[10, 3, 1], [0, 1, 1], [200, BILLION, BILLION]]:
            for at, (least, most) in enumerate(bounds):
                for thing in around(least, most):
                    need_refused(self, BadNumber, reach, *with_one(good, at, thing))


class BrakedTest(unittest.TestCase):
    def test_below_at_and_above_the_gain(self):
        self.assertEqual([], braked(0, 3))
        self.assertEqual([], braked(2, 3))
        self.assertEqual([], braked(3, 3))
        self.assertEqual([1], braked(4, 3))
        self.assertEqual([3], braked(6, 3))
        self.assertEqual([4, 1], braked(7, 3))
        self.assertEqual([5, 3, 1], braked(7, 2))
        self.assertEqual([4, 3, 2, 1], braked(5, 1))

    def test_great_ones(self):
        self.assertEqual([], braked(BILLION, BILLION))
        self.assertEqual([1], braked(BILLION, BILLION - 1))
        self.assertEqual([], braked(0, BILLION))
        self.assertEqual([], braked(1, BILLION))
        self.assertEqual([], braked(0, 1))

    def test_exactly_200_and_more(self):
        for gain in [1, 2, 3, 1000, 4975124]:
            self.assertEqual(list(range(200 * gain, 0, -gain)), braked(201 * gain, gain))
            self.assertEqual(200, len(braked(200 * gain + 1, gain)))
            self.assertEqual(199, len(braked(200 * gain, gain)))
            need_refused(self, TooLong, braked, 201 * gain + 1, gain)
        need_refused(self, TooLong, braked, BILLION, 1)

    def test_it_stands_at_the_latest_where_the_move_would_have_ended(self):
        for pace, gain in [(4, 1), (5, 2), (9, 1), (100, 7), (BILLION, 12345)]:
            for distance in [1, 2, 9, 50, 123, 700]:
                steps = steps_of(distance, pace, gain)
                for at, step in enumerate(steps):
                    self.assertLessEqual(sum(braked(step, gain)), sum(steps[at + 1:]))

    def test_the_list_is_the_askers(self):
        braked(7, 2).append(1)
        self.assertEqual([5, 3, 1], braked(7, 2))

    def test_wrong_numbers(self):
        # The last row is too long by itself, but a wrong number is told first.
        for good in [[7, 2], [0, 1], [BILLION, 1]]:
            for thing in around(0, BILLION):
                need_refused(self, BadNumber, braked, thing, good[1])
            for thing in around(1, BILLION):
                need_refused(self, BadNumber, braked, good[0], thing)


if __name__ == "__main__":
    unittest.main()
