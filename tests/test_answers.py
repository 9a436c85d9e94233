import copy
import itertools
import math
import unittest

from wheelrow import answers
from wheelrow.answers import Answer, Back, Bar, Clash, Common, Number, Times

HUGE = 10 ** 60
ODD_FIELDS = (-HUGE, -1000001, -7, -1, 0, 1, 2, 7, 1000000, 1000001, HUGE)
SOME_RESTS = ([], [(0, 1)], [(2, 3)], [(1, 2), (2, 3)], [(1, 2), (0, 4)], [(999999, 1000000), (0, 999999)])
SOME_NUMBERS = ([], [0], [0, 0], [5], [-6, 4], [1000000, -1000000, 1], [HUGE, -HUGE])
SOME_LISTS = ([], [0], [1], [-1, 1], [HUGE, -HUGE], [0, 0, 0])


def small_pairs(greatest):
    return [(rest, turn) for turn in range(1, greatest + 1) for rest in range(turn)]


class TruthCase(unittest.TestCase):
    def holds(self, truth, *about):
        self.assertIs(truth, True, about)

    def fails(self, truth, *about):
        self.assertIs(truth, False, about)


class ClassesTest(unittest.TestCase):
    def test_answer_stands_by_itself(self):
        self.assertEqual(Answer.__bases__, (object,))

    def test_the_others_stand_straight_under_answer(self):
        for name in ("Number", "Clash", "Common", "Times", "Bar", "Back"):
            with self.subTest(name=name):
                self.assertEqual(getattr(answers, name).__bases__, (Answer,))


class FieldsTest(unittest.TestCase):
    def test_fields_are_as_given(self):
        for value in ODD_FIELDS:
            number = Number(value, value + 1)
            self.assertEqual((number.number, number.turn), (value, value + 1))
            clash = Clash(value, value + 1)
            self.assertEqual((clash.one, clash.other), (value, value + 1))
            common = Common(value, [value, 2])
            self.assertEqual((common.part, common.times), (value, [value, 2]))
            self.assertEqual(Times([value, 3]).times, [value, 3])
            self.assertEqual(Bar(value).part, value)
            self.assertEqual(Back(value).rest, value)

    def test_fields_of_no_times(self):
        self.assertEqual(Common(0, []).times, [])
        self.assertEqual(Times([]).times, [])

    def test_lists_are_copied(self):
        given = [1, 2]
        common = Common(1, given)
        times = Times(given)
        self.assertIsInstance(common.times, list)
        self.assertIsInstance(times.times, list)
        given.append(3)
        given[0] = 9
        self.assertEqual(common.times, [1, 2])
        self.assertEqual(times.times, [1, 2])

    def test_the_given_list_stays_when_the_field_changes(self):
        given = [1, 2]
        Common(1, given).times.append(3)
        Times(given).times.append(3)
        self.assertEqual(given, [1, 2])

    def test_two_answers_share_no_list(self):
        first = Times([1])
        second = Times(first.times)
        second.times.append(2)
        self.assertEqual(first.times, [1])


class TruthsFollowFieldsTest(TruthCase):
    def test_number(self):
        answer = Number(2, 3)
        self.holds(answer.shows([(2, 3)]))
        answer.number = 1
        self.fails(answer.shows([(2, 3)]))
        answer.number = 2
        answer.turn = 6
        self.fails(answer.shows([(2, 3)]))
        answer.turn = 3
        self.holds(answer.shows([(2, 3)]))

    def test_clash(self):
        rests = [(0, 2), (1, 2), (0, 3)]
        answer = Clash(0, 1)
        self.holds(answer.shows(rests))
        answer.other = 2
        self.fails(answer.shows(rests))
        answer.one = 1
        answer.other = 1
        self.fails(answer.shows(rests))
        answer.one = 0
        self.holds(answer.shows(rests))

    def test_common(self):
        answer = Common(2, [-1, 1])
        self.holds(answer.shows([4, 6]))
        answer.times[0] = 0
        self.fails(answer.shows([4, 6]))
        answer.times = [2, -1]
        self.holds(answer.shows([4, 6]))
        answer.part = 1
        self.fails(answer.shows([4, 6]))
        answer.part = 2
        self.holds(answer.shows([4, 6]))

    def test_times(self):
        answer = Times([1, 0])
        self.holds(answer.shows([3, 4], 7, 3))
        answer.times[1] = 1
        self.fails(answer.shows([3, 4], 7, 3))
        self.holds(answer.shows([3, 4], 7, 0))
        answer.times.append(0)
        self.fails(answer.shows([3, 4], 7, 0))

    def test_bar(self):
        answer = Bar(2)
        self.holds(answer.shows([4], 6, 3))
        self.holds(answer.bars(4, 6))
        answer.part = 3
        self.fails(answer.shows([4], 6, 3))
        self.fails(answer.bars(4, 6))
        answer.part = 2
        self.holds(answer.shows([4], 6, 3))
        self.holds(answer.bars(4, 6))

    def test_back(self):
        answer = Back(5)
        self.holds(answer.shows(3, 7))
        answer.rest = 4
        self.fails(answer.shows(3, 7))
        answer.rest = 12
        self.fails(answer.shows(3, 7))
        answer.rest = 5
        self.holds(answer.shows(3, 7))


class NumberTest(TruthCase):
    def test_ordinary(self):
        rests = [(2, 3), (3, 5), (2, 7)]
        self.holds(Number(23, 105).shows(rests))
        self.fails(Number(22, 105).shows(rests))
        self.fails(Number(23, 210).shows(rests))
        self.fails(Number(128, 210).shows(rests))
        self.fails(Number(23, 35).shows(rests))

    def test_no_rests(self):
        self.holds(Number(0, 1).shows([]))
        for number, turn in ((1, 1), (-1, 1), (0, 2), (1, 2), (0, 0), (0, -1), (-1, 0), (1, 0), (0, HUGE)):
            self.fails(Number(number, turn).shows([]), number, turn)

    def test_rounds_with_a_common_part(self):
        self.holds(Number(7, 12).shows([(3, 4), (1, 6)]))
        self.fails(Number(7, 24).shows([(3, 4), (1, 6)]))
        self.fails(Number(1, 6).shows([(3, 4), (1, 6)]))

    def test_the_number_keeps_within_its_round(self):
        self.holds(Number(0, 5).shows([(0, 5)]))
        self.holds(Number(4, 5).shows([(4, 5)]))
        self.fails(Number(5, 5).shows([(0, 5)]))
        self.fails(Number(9, 5).shows([(4, 5)]))
        self.fails(Number(-1, 5).shows([(4, 5)]))
        self.fails(Number(-5, 5).shows([(0, 5)]))

    def test_a_round_of_nought_or_below(self):
        for turn in (0, -1, -5, -HUGE):
            for number in (-5, -1, 0, 1, 5):
                self.fails(Number(number, turn).shows([(0, 5)]), number, turn)

    def test_rests_that_clash_have_no_number(self):
        rests = [(0, 2), (1, 4)]
        for turn in range(-2, 10):
            for number in range(-2, 10):
                self.fails(Number(number, turn).shows(rests), number, turn)

    def test_a_round_far_beyond_a_million(self):
        turns = [1000000, 999999, 999997, 999983]
        rests = [(turn - 1, turn) for turn in turns]
        turn = math.lcm(*turns)
        self.holds(Number(turn - 1, turn).shows(rests))
        self.fails(Number(turn - 2, turn).shows(rests))
        self.fails(Number(turn - 1, 2 * turn).shows(rests))

    def test_many_rests(self):
        rests = [(5 % turn, turn) for turn in range(1, 800)]
        turn = math.lcm(*range(1, 800))
        self.holds(Number(5, turn).shows(rests))
        self.fails(Number(5, turn - 1).shows(rests))
        self.fails(Number(6, turn).shows(rests))

    def test_all_small_ones_as_told(self):
        # All rounds here go into 840, so what holds of one such span holds of all numbers.
        span = range(840)
        turns = (-2, -1, 0, 1, 2, 3, 4, 5, 6, 7, 8, 10, 12, 24)
        fields = [(number, turn) for turn in turns for number in range(-2, 26)]
        reached = {}
        for number, turn in fields:
            if 0 <= number < turn:
                reached[number, turn] = {value for value in span if (value - number) % turn == 0}
        pairs = small_pairs(4)
        lists = [[]] + [[pair] for pair in pairs] + [list(two) for two in itertools.product(pairs, repeat=2)]
        for rests in lists:
            wanted = {value for value in span if all((value - rest) % turn == 0 for rest, turn in rests)}
            for number, turn in fields:
                told = reached.get((number, turn)) == wanted
                self.assertIs(Number(number, turn).shows(rests), told, (number, turn, rests))


class ClashTest(TruthCase):
    def test_ordinary(self):
        rests = [(1, 3), (0, 4), (2, 5), (1, 6), (3, 10)]
        self.holds(Clash(1, 3).shows(rests))
        self.holds(Clash(1, 4).shows(rests))
        self.holds(Clash(2, 4).shows(rests))
        self.fails(Clash(0, 1).shows(rests))
        self.fails(Clash(0, 3).shows(rests))

    def test_the_lesser_place_stands_first(self):
        rests = [(0, 2), (1, 2)]
        self.holds(Clash(0, 1).shows(rests))
        self.fails(Clash(1, 0).shows(rests))
        self.fails(Clash(0, 0).shows(rests))
        self.fails(Clash(1, 1).shows(rests))

    def test_places_beyond_the_rests(self):
        rests = [(0, 2), (1, 2)]
        for one, other in ((-2, -1), (-1, 0), (-2, 1), (-1, 1), (0, 2), (1, 2), (2, 3), (-HUGE, 0), (0, HUGE)):
            self.fails(Clash(one, other).shows(rests), one, other)

    def test_no_rests_or_one(self):
        for one in range(-2, 3):
            for other in range(-2, 3):
                self.fails(Clash(one, other).shows([]), one, other)
                self.fails(Clash(one, other).shows([(0, 2)]), one, other)

    def test_rounds_without_a_common_part_never_clash(self):
        for rest in range(4):
            for other in range(9):
                self.fails(Clash(0, 1).shows([(rest, 4), (other, 9)]), rest, other)

    def test_a_round_of_one_never_clashes(self):
        self.fails(Clash(0, 1).shows([(0, 1), (0, 1)]))
        self.fails(Clash(0, 1).shows([(0, 1), (5, 6)]))
        self.fails(Clash(0, 1).shows([(5, 6), (0, 1)]))

    def test_the_greatest_rounds(self):
        self.holds(Clash(0, 1).shows([(0, 1000000), (999999, 1000000)]))
        self.fails(Clash(0, 1).shows([(0, 1000000), (999998, 999999)]))

    def test_all_small_ones_as_told(self):
        # All rounds here go into 60.
        for first in small_pairs(6):
            for second in small_pairs(6):
                met = any((value - first[0]) % first[1] == 0 == (value - second[0]) % second[1] for value in range(60))
                self.assertIs(Clash(0, 1).shows([first, second]), not met, (first, second))
                self.assertIs(Clash(1, 2).shows([(0, 1), first, second]), not met, (first, second))


class CommonTest(TruthCase):
    def test_ordinary(self):
        self.holds(Common(6, [-1, 1]).shows([12, 18]))
        self.holds(Common(6, [2, -1]).shows([12, 18]))
        self.holds(Common(1, [1, -2, 1]).shows([6, 10, 15]))
        self.holds(Common(1, [1, 1, -1]).shows([6, 10, 15]))
        self.fails(Common(1, [1, 2, -1]).shows([6, 10, 15]))
        self.holds(Common(5, [-1]).shows([-5]))
        self.fails(Common(5, [1]).shows([-5]))

    def test_times_that_do_not_make_the_part(self):
        self.fails(Common(6, [1, 1]).shows([12, 18]))
        self.fails(Common(6, [0, 0]).shows([12, 18]))
        self.fails(Common(6, [1, -1]).shows([12, 18]))

    def test_a_part_that_is_not_the_greatest(self):
        self.fails(Common(3, [-1, 1]).shows([12, 18]))
        self.fails(Common(2, [0, 0]).shows([12, 18]))

    def test_a_sum_that_is_not_the_common_part(self):
        self.fails(Common(12, [1, 0]).shows([12, 18]))
        self.fails(Common(18, [0, 1]).shows([12, 18]))
        self.fails(Common(0, [3, -2]).shows([12, 18]))
        self.fails(Common(0, [0, 0]).shows([12, 18]))

    def test_a_part_below_nought(self):
        self.fails(Common(-6, [1, -1]).shows([12, 18]))
        self.fails(Common(-5, [1]).shows([-5]))

    def test_noughts_and_none(self):
        self.holds(Common(0, []).shows([]))
        self.holds(Common(0, [0]).shows([0]))
        self.holds(Common(0, [7, -3]).shows([0, 0]))
        self.fails(Common(1, []).shows([]))
        self.fails(Common(1, [1]).shows([0]))
        self.fails(Common(0, [0]).shows([]))
        self.fails(Common(0, []).shows([0]))

    def test_a_nought_among_others(self):
        self.holds(Common(4, [9, 1]).shows([0, 4]))
        self.fails(Common(0, [1, 0]).shows([0, 4]))

    def test_times_too_many_or_too_few(self):
        self.fails(Common(6, [-1, 1, 0]).shows([12, 18]))
        self.fails(Common(6, [1]).shows([6, 12]))
        self.fails(Common(6, []).shows([6]))
        self.holds(Common(6, [1, 0]).shows([6, 12]))

    def test_numbers_far_beyond_a_million(self):
        self.holds(Common(HUGE, [-1, 1]).shows([2 * HUGE, 3 * HUGE]))
        self.fails(Common(1, [-1, 1]).shows([2 * HUGE, 3 * HUGE]))

    def test_all_small_ones_as_told(self):
        for numbers in itertools.product(range(-4, 5), repeat=2):
            greatest = max([part for part in range(1, 5) if not any(number % part for number in numbers)])
            part_told = greatest if any(numbers) else 0
            for times in itertools.product(range(-2, 3), repeat=2):
                made = numbers[0] * times[0] + numbers[1] * times[1]
                for part in range(-2, 6):
                    told = part == part_told == made
                    self.assertIs(Common(part, list(times)).shows(list(numbers)), told, (part, times, numbers))


class TimesTest(TruthCase):
    def test_ordinary(self):
        self.holds(Times([2, 1]).shows([3, 5], 7, 4))
        self.fails(Times([2, 1]).shows([3, 5], 7, 3))
        self.holds(Times([3]).shows([-2], 10, 4))

    def test_each_is_a_rest_by_the_round(self):
        self.holds(Times([0]).shows([3], 7, 0))
        self.holds(Times([6]).shows([3], 7, 4))
        self.fails(Times([7]).shows([3], 7, 0))
        self.fails(Times([13]).shows([3], 7, 4))
        self.fails(Times([-1]).shows([3], 7, 4))
        self.fails(Times([0, 7]).shows([3, 3], 7, 0))
        self.fails(Times([-7, 0]).shows([3, 3], 7, 0))

    def test_times_too_many_or_too_few(self):
        self.fails(Times([1, 0]).shows([3], 7, 3))
        self.fails(Times([1]).shows([3, 7], 7, 3))
        self.fails(Times([]).shows([7], 7, 0))
        self.fails(Times([0]).shows([], 7, 0))

    def test_no_numbers(self):
        self.holds(Times([]).shows([], 7, 0))
        self.fails(Times([]).shows([], 7, 3))
        self.holds(Times([]).shows([], 1, 0))

    def test_a_round_of_one(self):
        self.holds(Times([0, 0]).shows([3, -5], 1, 0))
        self.fails(Times([1, 0]).shows([3, -5], 1, 0))
        self.fails(Times([0, -1]).shows([3, -5], 1, 0))

    def test_numbers_far_beyond_a_million(self):
        self.holds(Times([999999]).shows([HUGE - 1], 1000000, 1))
        self.fails(Times([999999]).shows([HUGE - 1], 1000000, 2))

    def test_all_small_ones_as_told(self):
        for turn in range(1, 5):
            for times in itertools.product(range(-1, 6), repeat=2):
                for numbers in itertools.product(range(-3, 4), repeat=2):
                    made = numbers[0] * times[0] + numbers[1] * times[1]
                    within = set(times) <= set(range(turn))
                    for rest in range(turn):
                        told = within and made in range(rest - 40 * turn, 40 * turn, turn)
                        self.assertIs(Times(list(times)).shows(list(numbers), turn, rest), told)


class BarTest(TruthCase):
    def test_ordinary(self):
        self.holds(Bar(3).shows([6, -9, 0], 12, 4))
        self.holds(Bar(2).shows([4], 6, 5))
        self.holds(Bar(6).shows([6, 12], 12, 3))

    def test_a_part_of_one_or_less(self):
        for part in (1, 0, -1, -3, -HUGE):
            self.fails(Bar(part).shows([6, -9, 0], 12, 4), part)
            self.fails(Bar(part).bars(6, 12), part)
            self.fails(Bar(part).shows([], 1, 0), part)
            self.fails(Bar(part).bars(0, 1), part)

    def test_not_into_a_number(self):
        self.fails(Bar(3).shows([6, 8], 12, 4))
        self.fails(Bar(3).shows([8, 6], 12, 4))
        self.fails(Bar(3).bars(8, 12))

    def test_not_into_the_round(self):
        self.fails(Bar(3).shows([6, 9], 8, 4))
        self.fails(Bar(3).bars(6, 8))

    def test_into_the_rest_too(self):
        self.fails(Bar(3).shows([6, 9], 12, 3))
        self.fails(Bar(3).shows([6, 9], 12, 0))

    def test_no_numbers(self):
        self.holds(Bar(12).shows([], 12, 5))
        self.holds(Bar(4).shows([], 12, 5))
        self.fails(Bar(5).shows([], 12, 4))
        self.fails(Bar(4).shows([], 12, 8))
        self.fails(Bar(12).shows([], 12, 0))

    def test_bars(self):
        self.holds(Bar(3).bars(6, 9))
        self.holds(Bar(3).bars(-6, 9))
        self.holds(Bar(9).bars(0, 9))
        self.holds(Bar(3).bars(9, 9))
        self.fails(Bar(18).bars(18, 9))
        self.fails(Bar(2).bars(0, 1))

    def test_numbers_far_beyond_a_million(self):
        self.holds(Bar(5).bars(HUGE, 1000000))
        self.fails(Bar(5).bars(HUGE + 1, 1000000))
        self.holds(Bar(5).shows([HUGE, -HUGE], 1000000, 4))

    def test_all_small_ones_as_told(self):
        for part in range(-2, 9):
            into = {part * often for often in range(-20, 21)} if part > 1 else set()
            for turn in range(1, 9):
                for number in range(-8, 9):
                    both = number in into and turn in into
                    self.assertIs(Bar(part).bars(number, turn), both, (part, number, turn))
                    for rest in range(turn):
                        told = both and rest not in into
                        self.assertIs(Bar(part).shows([number], turn, rest), told, (part, number, turn, rest))


class BackTest(TruthCase):
    def test_ordinary(self):
        self.holds(Back(5).shows(3, 7))
        self.fails(Back(4).shows(3, 7))
        self.fails(Back(0).shows(3, 7))

    def test_beyond_the_round_or_below_nought(self):
        self.fails(Back(12).shows(3, 7))
        self.fails(Back(-2).shows(3, 7))
        self.holds(Back(1).shows(1, 7))
        self.fails(Back(8).shows(1, 7))
        self.holds(Back(6).shows(6, 7))
        self.fails(Back(7).shows(1, 7))

    def test_a_round_of_one(self):
        for number in (-3, 0, 1, 8):
            self.holds(Back(0).shows(number, 1), number)
            self.fails(Back(1).shows(number, 1), number)
            self.fails(Back(-1).shows(number, 1), number)

    def test_numbers_below_nought_and_far_beyond_a_million(self):
        self.holds(Back(2).shows(-3, 7))
        self.fails(Back(5).shows(-3, 7))
        self.holds(Back(1).shows(HUGE + 1, 1000000))
        self.holds(Back(999999).shows(HUGE - 1, 1000000))
        self.holds(Back(999999).shows(-HUGE - 1, 1000000))
        self.fails(Back(999998).shows(HUGE - 1, 1000000))

    def test_a_number_that_is_not_turned_back(self):
        for rest in range(-1, 7):
            self.fails(Back(rest).shows(4, 6), rest)
            self.fails(Back(rest).shows(0, 6), rest)

    def test_all_small_ones_as_told(self):
        for turn in range(1, 9):
            left = 0 if turn == 1 else 1
            for number in range(-9, 10):
                for rest in range(-3, 12):
                    told = rest in range(turn) and (number * rest) % turn == left
                    self.assertIs(Back(rest).shows(number, turn), told, (rest, number, turn))


class NoCallFailsTest(unittest.TestCase):
    def truth(self, value):
        self.assertIn(repr(value), ("True", "False"))

    def test_of_rests(self):
        for first, second in itertools.product(ODD_FIELDS, repeat=2):
            for rests in SOME_RESTS:
                self.truth(Number(first, second).shows(rests))
                self.truth(Clash(first, second).shows(rests))

    def test_of_numbers(self):
        for part, times, numbers in itertools.product(ODD_FIELDS, SOME_LISTS, SOME_NUMBERS):
            self.truth(Common(part, times).shows(numbers))

    def test_of_numbers_a_round_and_a_rest(self):
        for rest, turn in ((0, 1), (0, 2), (1, 2), (0, 1000000), (999999, 1000000)):
            for numbers in SOME_NUMBERS:
                for times in SOME_LISTS:
                    self.truth(Times(times).shows(numbers, turn, rest))
                for part in ODD_FIELDS:
                    self.truth(Bar(part).shows(numbers, turn, rest))

    def test_of_a_number_and_a_round(self):
        for field, number, turn in itertools.product(ODD_FIELDS, ODD_FIELDS, (1, 2, 999999, 1000000)):
            self.truth(Bar(field).bars(number, turn))
            self.truth(Back(field).shows(number, turn))


class UnchangedTest(unittest.TestCase):
    def check(self, answer, *about):
        fields = copy.deepcopy(vars(answer))
        before = copy.deepcopy(about)
        answer.shows(*about)
        self.assertEqual(about, before)
        self.assertEqual(vars(answer), fields)

    def test_what_is_asked_about_and_the_fields_stay(self):
        for rests in SOME_RESTS:
            self.check(Number(5, 6), list(rests))
            self.check(Clash(0, 1), list(rests))
        for numbers in SOME_NUMBERS:
            self.check(Common(2, [1, 1]), list(numbers))
            self.check(Times([1, 1]), list(numbers), 7, 3)
            self.check(Bar(2), list(numbers), 4, 1)
