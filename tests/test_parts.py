import copy
import itertools
import math

from tests.helpers import HUGE, MILLION, NO_NUMBERS, NO_ROUNDS, NO_WHOLE_NUMBERS
from tests.helpers import ToldCase, mixed, mixed_numbers, wrong_numbers
from wheelrow.answers import Back, Bar, Common, Times
from wheelrow.errors import BadNumbers, BadRest, BadRound
from wheelrow.parts import back, come, common


class CommonTest(ToldCase):
    def common_told(self, numbers):
        answer = self.is_of(common(numbers), Common)
        self.assertEqual(answer.part, math.gcd(*numbers))
        self.assertIs(type(answer.times), list)
        self.assertEqual(len(answer.times), len(numbers))
        self.assertTrue(all(type(often) is int for often in answer.times))
        self.assertEqual(sum(number * often for number, often in zip(numbers, answer.times)), answer.part)
        self.assertIs(answer.shows(numbers), True)
        return answer

    def test_none(self):
        answer = self.common_told([])
        self.assertEqual((answer.part, answer.times), (0, []))

    def test_noughts_alone(self):
        for count in (1, 2, 5):
            self.assertEqual(self.common_told([0] * count).part, 0)

    def test_one_number(self):
        for number in (1, 5, MILLION):
            self.assertEqual(vars(self.common_told([number])), {"part": number, "times": [1]})
            self.assertEqual(vars(self.common_told([-number])), {"part": number, "times": [-1]})

    def test_noughts_among_others(self):
        for numbers in ([0, 4], [4, 0], [0, -4, 0], [0, 0, 6, 0, -9, 0], [0, 5, 0, 7]):
            self.common_told(numbers)

    def test_with_and_without_a_common_part(self):
        self.assertEqual(self.common_told([12, 18]).part, 6)
        self.assertEqual(self.common_told([12, -18, 8]).part, 2)
        self.assertEqual(self.common_told([6, 10, 15]).part, 1)
        self.assertEqual(self.common_told([-6, -10, -15]).part, 1)
        self.assertEqual(self.common_told([7, 7, -7]).part, 7)

    def test_the_bounds(self):
        for numbers in itertools.product((-MILLION, 1 - MILLION, 0, MILLION - 1, MILLION), repeat=3):
            self.common_told(list(numbers))

    def test_many(self):
        for count in (60, 100):
            for factor in (1, 6, 1000):
                numbers = [number * factor for number in mixed_numbers(count, MILLION // factor, seed=count)]
                self.common_told(numbers)

    def test_many_that_give_up_the_part_bit_by_bit(self):
        numbers = [2 ** power * (-1) ** power for power in range(19, -1, -1)] * 4
        self.common_told(numbers)
        self.common_told([3 * 2 ** power for power in range(18, -1, -1)] + [12] * 60)

    def test_very_many(self):
        self.common_told(mixed_numbers(20000))

    def test_all_small_ones(self):
        for count in (1, 2, 3):
            for numbers in itertools.product(range(-7, 8), repeat=count):
                self.common_told(list(numbers))


class ComeTest(ToldCase):
    def told_rightly(self, numbers, turn, rest):
        answer = come(numbers, turn, rest)
        part = math.gcd(turn, *numbers)
        if rest % part == 0:
            self.is_of(answer, Times)
            self.assertIs(type(answer.times), list)
            self.assertEqual(len(answer.times), len(numbers))
            self.assertTrue(all(type(often) is int and 0 <= often < turn for often in answer.times))
            made = sum(number * often for number, often in zip(numbers, answer.times))
            self.assertEqual(made % turn, rest)
        else:
            self.is_of(answer, Bar)
            self.assertGreater(answer.part, 1)
            self.assertEqual([number % answer.part for number in numbers + [turn]], [0] * (len(numbers) + 1))
            self.assertNotEqual(rest % answer.part, 0)
        self.assertIs(answer.shows(numbers, turn, rest), True)
        return answer

    def test_ordinary(self):
        self.is_of(self.told_rightly([3, 5], 7, 4), Times)
        self.is_of(self.told_rightly([4, 6], 8, 6), Times)
        self.is_of(self.told_rightly([4, 6], 8, 3), Bar)

    def test_no_numbers(self):
        for turn in (1, 2, 9, MILLION):
            self.assertEqual(self.is_of(self.told_rightly([], turn, 0), Times).times, [])
        for turn, rest in ((2, 1), (9, 1), (9, 8), (12, 6), (MILLION, 999999)):
            self.is_of(self.told_rightly([], turn, rest), Bar)

    def test_a_round_of_one(self):
        for numbers in ([], [0], [5], [-5, 0, MILLION]):
            self.assertEqual(self.is_of(self.told_rightly(numbers, 1, 0), Times).times, [0] * len(numbers))

    def test_a_prime_round(self):
        for turn in (2, 3, 97, 999983):
            for rest in {0, 1, turn // 2, turn - 1}:
                self.is_of(self.told_rightly([1 - turn], turn, rest), Times)
                self.is_of(self.told_rightly([turn, 5], turn, rest), Times)
                self.is_of(self.told_rightly([0, turn, -turn], turn, rest), Bar if rest else Times)

    def test_rounds_of_small_parts(self):
        for turn in (12, 30, 720, 30030, 510510, MILLION):
            for rest in sorted({0, 1, 2, 6, 10, turn // 2, turn // 3, turn - 2, turn - 1} & set(range(turn))):
                for numbers in ([6], [-10], [6, -10], [4, 6, 0], [6, 10, 15], [turn, 0], [0], [-15, turn // 2]):
                    self.told_rightly(numbers, turn, rest)

    def test_a_common_part_that_goes_into_the_rest_or_not(self):
        self.is_of(self.told_rightly([-6, 9], 12, 9), Times)
        self.is_of(self.told_rightly([-6, 9], 12, 10), Bar)
        self.is_of(self.told_rightly([-6, 18], 12, 6), Times)
        self.is_of(self.told_rightly([-6, 18], 12, 3), Bar)
        self.is_of(self.told_rightly([MILLION, -MILLION], MILLION, 1), Bar)

    def test_many(self):
        for factor in (1, 2, 10):
            numbers = [number * factor for number in mixed_numbers(70, MILLION // factor, seed=3)]
            for turn in (999983, 720720, MILLION):
                for rest in (0, 1, 700000, turn - 1):
                    self.told_rightly(numbers, turn, rest)

    def test_all_small_ones(self):
        for turn in range(1, 9):
            for rest in range(turn):
                for count in (0, 1, 2):
                    for numbers in itertools.product(range(-5, 9), repeat=count):
                        self.told_rightly(list(numbers), turn, rest)


class BackTest(ToldCase):
    def told_rightly(self, number, turn):
        answer = back(number, turn)
        if math.gcd(number, turn) == 1:
            self.is_of(answer, Back)
            self.assertIn(answer.rest, range(turn))
            self.assertEqual(answer.rest * number % turn, 1 % turn)
            self.assertIs(answer.shows(number, turn), True)
        else:
            self.is_of(answer, Bar)
            self.assertGreater(answer.part, 1)
            self.assertEqual((number % answer.part, turn % answer.part), (0, 0))
            self.assertIs(answer.bars(number, turn), True)
        return answer

    def test_ordinary(self):
        self.assertEqual(self.is_of(self.told_rightly(3, 7), Back).rest, 5)
        self.assertEqual(self.is_of(self.told_rightly(-3, 7), Back).rest, 2)
        self.is_of(self.told_rightly(4, 6), Bar)
        self.is_of(self.told_rightly(-9, 6), Bar)

    def test_nought(self):
        self.assertEqual(self.is_of(self.told_rightly(0, 1), Back).rest, 0)
        for turn in (2, 3, 12, MILLION):
            self.is_of(self.told_rightly(0, turn), Bar)

    def test_a_round_of_one(self):
        for number in (-MILLION, -2, -1, 1, 2, MILLION):
            self.assertEqual(self.is_of(self.told_rightly(number, 1), Back).rest, 0)

    def test_the_bounds(self):
        for number in (-MILLION, 1 - MILLION, -1, 1, MILLION - 1, MILLION):
            for turn in (1, 2, 3, 999983, MILLION - 1, MILLION):
                self.told_rightly(number, turn)

    def test_all_small_ones(self):
        for turn in range(1, 40):
            for number in range(-60, 61):
                self.told_rightly(number, turn)

    def test_many(self):
        for number, turn in zip(mixed_numbers(2000), mixed(2000, MILLION, seed=8)):
            self.told_rightly(number, turn + 1)


class RefusedTest(ToldCase):
    def test_common(self):
        for wrong in wrong_numbers():
            self.refused(BadNumbers, common, wrong)

    def test_come_numbers(self):
        for wrong in wrong_numbers():
            self.refused(BadNumbers, come, wrong, 7, 3)

    def test_come_round(self):
        for wrong in NO_ROUNDS:
            self.refused(BadRound, come, [4, 6], wrong, 0)
            self.refused(BadRound, come, [], wrong, 0)

    def test_come_rest(self):
        for wrong in NO_WHOLE_NUMBERS + (-1, 7, 8, -MILLION, MILLION, HUGE):
            self.refused(BadRest, come, [4, 6], 7, wrong)
            self.refused(BadRest, come, [], 7, wrong)
        for turn in (1, 2, MILLION):
            self.refused(BadRest, come, [4, 6], turn, turn)
            self.refused(BadRest, come, [4, 6], turn, -1)

    def test_come_numbers_ahead_of_round_ahead_of_rest(self):
        for wrong in ([MILLION + 1], [True], None, (4, 6)):
            for turn, rest in ((0, 0), (None, 3), (7, 7), (7, None), (0, -1), (True, True)):
                self.refused(BadNumbers, come, wrong, turn, rest)
        for turn in (0, -1, None, True, MILLION + 1, "7", [7]):
            for rest in (-1, None, True, MILLION + 2, [0]):
                self.refused(BadRound, come, [4, 6], turn, rest)

    def test_back_number(self):
        for wrong in NO_NUMBERS:
            self.refused(BadNumbers, back, wrong, 7)

    def test_back_round(self):
        for wrong in NO_ROUNDS:
            self.refused(BadRound, back, 3, wrong)

    def test_back_number_ahead_of_round(self):
        for wrong in (MILLION + 1, -MILLION - 1, True, None, "3", [3]):
            for turn in (0, MILLION + 1, None, True, [7]):
                self.refused(BadNumbers, back, wrong, turn)


class KeptNothingTest(ToldCase):
    def check(self, function, numbers, *others):
        before = copy.deepcopy(numbers)
        answer = function(numbers, *others)
        fields = copy.deepcopy(vars(answer))
        self.assertEqual(numbers, before)
        numbers.append(1)
        numbers[0] = 35
        changed = list(numbers)
        self.assertEqual(vars(answer), fields)
        for value in vars(answer).values():
            if isinstance(value, list):
                value.append(99)
                value[0] = -99
        self.assertEqual(numbers, changed)
        self.assertEqual(vars(function(before, *others)), fields)

    def test_common(self):
        for numbers in ([], [0], [5], [-6, 4], [6, 10, 15]):
            self.check(common, numbers)

    def test_come(self):
        for numbers in ([], [0], [5], [-6, 4], [6, 10, 15]):
            self.check(come, list(numbers), 12, 0)
            self.check(come, list(numbers), 12, 5)

    def test_two_answers_share_no_list(self):
        for function, given in ((common, ([4, 6],)), (come, ([4, 6], 5, 3)), (common, ([],)), (come, ([], 5, 0))):
            first = function(*given)
            before = list(first.times)
            second = function(*given)
            second.times.append(7)
            self.assertEqual(first.times, before)
