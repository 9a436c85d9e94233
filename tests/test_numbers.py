import copy
import math
import unittest

from tests.helpers import MILLION, NO_WHOLE_NUMBERS, OTHER_KINDS
from wheelrow import numbers


class CheckedCase(unittest.TestCase):
    def taken(self, check, *values):
        with self.subTest(check=check.__name__, values=values):
            self.assertIs(check(*values), True)

    def refused(self, check, *values):
        with self.subTest(check=check.__name__, values=values):
            self.assertIs(check(*values), False)


class WholeTest(CheckedCase):
    def test_whole_numbers_of_any_size(self):
        for value in (0, 1, -1, 10 ** 50, -(10 ** 50)):
            self.taken(numbers.is_whole, value)

    def test_other_kinds(self):
        for value in NO_WHOLE_NUMBERS:
            self.refused(numbers.is_whole, value)


class NumbersTest(CheckedCase):
    def test_the_bounds_of_a_number(self):
        for value in (-MILLION, 1 - MILLION, -1, 0, 1, MILLION - 1, MILLION):
            self.taken(numbers.is_number, value)
            self.taken(numbers.are_numbers, [value])

    def test_beyond_the_bounds_of_a_number(self):
        for value in (-MILLION - 1, MILLION + 1, 10 ** 50, -(10 ** 50)):
            self.refused(numbers.is_number, value)
            self.refused(numbers.are_numbers, [value])

    def test_other_kinds_are_no_number(self):
        for value in NO_WHOLE_NUMBERS:
            self.refused(numbers.is_number, value)
            self.refused(numbers.are_numbers, [value])

    def test_lists_of_any_count(self):
        self.taken(numbers.are_numbers, [])
        self.taken(numbers.are_numbers, [3, -4, 0, 3])
        self.taken(numbers.are_numbers, list(range(-2000, 2000)))

    def test_one_wrong_number_at_any_place(self):
        for wrong in (MILLION + 1, True, None, "2"):
            self.refused(numbers.are_numbers, [wrong, 1, 2])
            self.refused(numbers.are_numbers, [1, wrong, 2])
            self.refused(numbers.are_numbers, [1, 2, wrong])

    def test_what_is_no_list(self):
        for value in OTHER_KINDS + (True, False, 0, 5, (), (1, 2), {1, 2}):
            self.refused(numbers.are_numbers, value)


class RoundTest(CheckedCase):
    def test_the_bounds(self):
        for value in (1, 2, 999999, MILLION):
            self.taken(numbers.is_round, value)

    def test_beyond_the_bounds(self):
        for value in (0, -1, -MILLION, MILLION + 1, 10 ** 50):
            self.refused(numbers.is_round, value)

    def test_other_kinds(self):
        for value in NO_WHOLE_NUMBERS:
            self.refused(numbers.is_round, value)


class RoundsTest(CheckedCase):
    def test_lists_of_any_count(self):
        for value in ([], [1], [MILLION], [3, 3, 1, 999999], list(range(1, 3000))):
            self.taken(numbers.are_rounds, value)

    def test_one_wrong_round_at_any_place(self):
        for wrong in (0, -1, MILLION + 1) + NO_WHOLE_NUMBERS:
            self.refused(numbers.are_rounds, [wrong])
            self.refused(numbers.are_rounds, [wrong, 1, 2])
            self.refused(numbers.are_rounds, [1, wrong, 2])
            self.refused(numbers.are_rounds, [1, 2, wrong])

    def test_what_is_no_list(self):
        for value in OTHER_KINDS + (True, False, 0, 5, (), (1, 2), {1, 2}):
            self.refused(numbers.are_rounds, value)


class RestTest(CheckedCase):
    def test_the_bounds(self):
        for turn in (1, 2, 7, MILLION):
            self.taken(numbers.is_rest, 0, turn)
            self.taken(numbers.is_rest, turn - 1, turn)
            self.refused(numbers.is_rest, -1, turn)
            self.refused(numbers.is_rest, turn, turn)
            self.refused(numbers.is_rest, turn + 1, turn)

    def test_by_what_is_no_round(self):
        for turn in (0, -1, MILLION + 1) + NO_WHOLE_NUMBERS:
            self.refused(numbers.is_rest, 0, turn)

    def test_other_kinds(self):
        for value in NO_WHOLE_NUMBERS:
            self.refused(numbers.is_rest, value, 7)


class RestsTest(CheckedCase):
    def test_lists_of_any_count(self):
        self.taken(numbers.are_rests, [])
        self.taken(numbers.are_rests, [(0, 1)])
        self.taken(numbers.are_rests, [(2, 3), (2, 3), (1, 2), (MILLION - 1, MILLION)])
        self.taken(numbers.are_rests, [(turn - 1, turn) for turn in range(1, 3000)])

    def test_rests_at_and_beyond_the_bounds(self):
        for turn in (1, 2, 7, MILLION):
            self.taken(numbers.are_rests, [(0, turn)])
            self.taken(numbers.are_rests, [(turn - 1, turn)])
            self.refused(numbers.are_rests, [(-1, turn)])
            self.refused(numbers.are_rests, [(turn, turn)])

    def test_rounds_beyond_the_bounds(self):
        for turn in (0, -1, MILLION + 1):
            self.refused(numbers.are_rests, [(0, turn)])

    def test_pairs_of_other_kinds(self):
        for value in NO_WHOLE_NUMBERS:
            self.refused(numbers.are_rests, [(value, 7)])
            self.refused(numbers.are_rests, [(0, value)])

    def test_what_is_no_pair(self):
        for value in OTHER_KINDS + (True, False, 0, 3, [], [0, 1], [2, 3], (), (0,), (2, 3, 5), "01", ((2, 3), (1, 2))):
            self.refused(numbers.are_rests, [value])

    def test_one_wrong_pair_at_any_place(self):
        for wrong in ((3, 3), [2, 3], (2, 3, 4), None, (True, 2)):
            self.refused(numbers.are_rests, [wrong, (1, 2), (2, 3)])
            self.refused(numbers.are_rests, [(1, 2), wrong, (2, 3)])
            self.refused(numbers.are_rests, [(1, 2), (2, 3), wrong])

    def test_what_is_no_list(self):
        for value in OTHER_KINDS + (True, False, 0, 5, (), (2, 3), ((2, 3), (1, 2)), {(2, 3)}, {(2, 3): True}):
            self.refused(numbers.are_rests, value)


class UnchangedTest(unittest.TestCase):
    def test_what_is_asked_about_stays(self):
        for check, value in (
            (numbers.are_rests, [(2, 3), (1, 2)]),
            (numbers.are_rests, [[2, 3], (1, 2)]),
            (numbers.are_numbers, [3, -4, 0]),
            (numbers.are_numbers, [3, None, True]),
            (numbers.common_part, [12, -18, 0]),
            (numbers.common_turn, [4, 6, 1]),
        ):
            with self.subTest(check=check.__name__, value=value):
                before = copy.deepcopy(value)
                check(value)
                self.assertEqual(value, before)


class LeavesTest(CheckedCase):
    def test_all_small_numbers(self):
        for turn in range(1, 8):
            for rest in range(turn):
                wanted = {rest + often * turn for often in range(-60, 60)}
                for number in range(-50, 51):
                    self.assertIs(numbers.leaves(number, rest, turn), number in wanted, (number, rest, turn))

    def test_numbers_below_nought_and_far_beyond(self):
        self.taken(numbers.leaves, -1, 4, 5)
        self.refused(numbers.leaves, -1, 1, 5)
        self.taken(numbers.leaves, 10 ** 40 + 3, 3, MILLION)
        self.taken(numbers.leaves, -(10 ** 40) + 3, 3, MILLION)
        self.refused(numbers.leaves, 10 ** 40 + 3, 4, MILLION)

    def test_a_round_of_one(self):
        for number in (-7, 0, 12):
            self.taken(numbers.leaves, number, 0, 1)


class CommonTest(unittest.TestCase):
    def test_common_part_of_few(self):
        for values, part in (
            ([], 0), ([0], 0), ([0, 0], 0), ([5], 5), ([-5], 5), ([0, -6], 6), ([-6, 0], 6),
            ([12, 18], 6), ([12, -18, 8], 2), ([6, 10, 15], 1), ([1, 0], 1),
        ):
            with self.subTest(values=values):
                self.assertEqual(numbers.common_part(values), part)

    def test_common_part_of_all_small_pairs(self):
        for one in range(-30, 31):
            for other in range(-30, 31):
                self.assertEqual(numbers.common_part([one, other]), math.gcd(one, other), (one, other))
                self.assertEqual(numbers.common_part_of_two(one, other), math.gcd(one, other), (one, other))

    def test_part_with_times_of_all_small_pairs(self):
        for one in range(-30, 31):
            for other in range(-30, 31):
                part, often, other_often = numbers.part_with_times(one, other)
                self.assertEqual(part, math.gcd(one, other), (one, other))
                self.assertEqual(often * one + other_often * other, part, (one, other))

    def test_part_with_times_stays_small(self):
        for one in range(1, 60):
            for other in range(1, 60):
                part, often, other_often = numbers.part_with_times(one, other)
                self.assertLessEqual(abs(often), other // part, (one, other))
                self.assertLessEqual(abs(other_often), one // part, (one, other))

    def test_turned_back(self):
        for turn in range(1, 40):
            for number in range(-50, 51):
                if math.gcd(number, turn) == 1:
                    rest = numbers.turned_back(number, turn)
                    self.assertIn(rest, range(turn))
                    self.assertEqual(rest * number % turn, 1 % turn, (number, turn))

    def test_common_turn(self):
        self.assertEqual(numbers.common_turn([]), 1)
        self.assertEqual(numbers.common_turn([7]), 7)
        for one in range(1, 30):
            for other in range(1, 30):
                self.assertEqual(numbers.common_turn([one, other]), math.lcm(one, other), (one, other))
        self.assertEqual(numbers.common_turn(list(range(1, 200))), math.lcm(*range(1, 200)))
