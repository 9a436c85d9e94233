import copy
import itertools
import math

from tests.helpers import HUGE, MILLION, NO_LISTS, NO_ROUNDS, NO_WHOLE_NUMBERS
from tests.helpers import ToldCase, mixed, with_wrong_ones, wrong_rests
from wheelrow.answers import Clash, Number
from wheelrow.errors import BadRests
from wheelrow.rests import left, told

PRIMES = [number for number in range(2, 400) if all(number % part for part in range(2, number))]


def rests_of(number, turns):
    return [(number % turn, turn) for turn in turns]


def clash_there(first, second):
    return (first[0] - second[0]) % math.gcd(first[1], second[1]) != 0


class RestsCase(ToldCase):
    def number_told(self, rests, number, turn):
        answer = self.is_of(told(rests), Number)
        self.assertEqual((answer.number, answer.turn), (number, turn))
        self.assertIs(answer.shows(rests), True)

    def clash_told(self, rests):
        answer = self.is_of(told(rests), Clash)
        self.assertLess(answer.one, answer.other)
        self.assertGreaterEqual(answer.one, 0)
        self.assertTrue(clash_there(rests[answer.one], rests[answer.other]))
        self.assertIs(answer.shows(rests), True)
        return (answer.one, answer.other)

    def told_of_number(self, number, turns):
        turn = math.lcm(*turns)
        rests = rests_of(number, turns)
        self.number_told(rests, number % turn, turn)
        self.number_told(rests[::-1], number % turn, turn)


class NumberToldTest(RestsCase):
    def test_no_rests(self):
        self.number_told([], 0, 1)

    def test_one_rest(self):
        for rest, turn in ((0, 1), (0, 2), (1, 2), (5, 9), (0, MILLION), (MILLION - 1, MILLION)):
            self.number_told([(rest, turn)], rest, turn)

    def test_rounds_of_one(self):
        self.number_told([(0, 1), (0, 1), (0, 1)], 0, 1)
        self.number_told([(0, 1), (3, 5), (0, 1), (1, 2), (0, 1)], 3, 10)

    def test_the_same_rest_twice(self):
        self.number_told([(5, 12), (5, 12)], 5, 12)
        self.number_told([(5, 12), (2, 7), (5, 12), (2, 7)], 65, 84)

    def test_rounds_without_a_common_part(self):
        self.number_told([(2, 3), (3, 5), (2, 7)], 23, 105)
        self.number_told([(MILLION - 1, MILLION), (0, MILLION - 1)], 999999, MILLION * (MILLION - 1))
        self.number_told([(0, MILLION), (1, MILLION - 1)], MILLION, MILLION * (MILLION - 1))

    def test_rounds_with_a_common_part(self):
        self.number_told([(3, 4), (1, 6)], 7, 12)
        self.number_told([(1, 6), (3, 4)], 7, 12)
        self.number_told([(3, 8), (3, 4)], 3, 8)
        self.number_told([(3, 4), (3, 8)], 3, 8)
        self.told_of_number(115, [12, 18, 30])

    def test_many_rounds_up_to_a_million(self):
        turns = [1 + turn for turn in mixed(70, MILLION)]
        for number in (0, 1, -1, 12345678901234567890, -HUGE, HUGE, 7 ** 400):
            self.told_of_number(number, turns)
        self.told_of_number(3 ** 700, [MILLION - place for place in range(90)])

    def test_very_many_rounds(self):
        self.told_of_number(10 ** 300, list(range(1, 1500)))

    def test_rests_are_left_by_no_lesser_number(self):
        turns = [6, 10, 15, 21, 35, 77, 1, 143]
        for number in range(0, math.lcm(*turns), 997):
            self.told_of_number(number, turns)


class ClashToldTest(RestsCase):
    def test_ordinary(self):
        self.assertEqual(self.clash_told([(0, 4), (1, 6)]), (0, 1))
        self.assertEqual(self.clash_told([(0, 2), (0, 3), (1, 2)]), (0, 2))
        self.assertEqual(self.clash_told([(0, MILLION), (999999, MILLION)]), (0, 1))

    def test_one_rest_of_many_changed(self):
        turns = [2 * (1 + turn) for turn in mixed(70, MILLION // 2, seed=5)]
        for place in (0, 1, 34, 68, 69):
            rests = rests_of(HUGE + 7, turns)
            rest, turn = rests[place]
            rests[place] = ((rest + 1) % turn, turn)
            # All rounds are even: the changed rest clashes with every other one, and no two others clash.
            self.assertIn(place, self.clash_told(rests))
            self.assertIn(len(rests) - 1 - place, self.clash_told(rests[::-1]))

    def test_only_two_that_lie_far_apart(self):
        for one, other in ((0, 69), (3, 66), (0, 1), (68, 69), (34, 35)):
            # Primes from 5 on, so that 8 and 12 have a common part with one another alone.
            turns = PRIMES[2:72]
            turns[one] = 8
            turns[other] = 12
            rests = rests_of(HUGE, turns)
            self.number_told(rests, HUGE % math.lcm(*turns), math.lcm(*turns))
            rests[other] = ((rests[other][0] + 2) % 12, 12)
            self.assertEqual(self.clash_told(rests), (one, other))
            self.assertEqual(self.clash_told(rests[::-1]), (69 - other, 69 - one))

    def test_a_clash_with_one_of_many_that_share_parts(self):
        turns = [4, 9, 25, 49, 6, 10, 14, 15, 21, 35, 98]
        rests = rests_of(1, turns) + [(1 + 5, 125)]
        # 6 and 1 part by 25, not by 5.
        self.assertEqual(self.clash_told(rests), (2, 11))

    def test_all_small_ones(self):
        # All rounds here go into 60.
        pairs = [(rest, turn) for turn in range(1, 7) for rest in range(turn)]
        spans = {pair: {value for value in range(60) if value % pair[1] == pair[0]} for pair in pairs}
        for count in (1, 2, 3):
            for rests in itertools.product(pairs, repeat=count):
                wanted = set.intersection(*[spans[pair] for pair in rests])
                if wanted:
                    self.number_told(list(rests), min(wanted), 60 // len(wanted))
                else:
                    one, other = self.clash_told(list(rests))
                    self.assertFalse(spans[rests[one]] & spans[rests[other]])


class LeftTest(ToldCase):
    def test_ordinary(self):
        self.assertEqual(left(23, [3, 5, 7]), [(2, 3), (3, 5), (2, 7)])
        self.assertEqual(left(7, [7, 8, 7]), [(0, 7), (7, 8), (0, 7)])

    def test_numbers_below_nought(self):
        self.assertEqual(left(-1, [1, 2, 10, MILLION]), [(0, 1), (1, 2), (9, 10), (MILLION - 1, MILLION)])
        self.assertEqual(left(-23, [3, 5, 7]), [(1, 3), (2, 5), (5, 7)])

    def test_numbers_far_beyond_a_million(self):
        self.assertEqual(left(HUGE + 3, [MILLION, 10, 9]), [(3, MILLION), (3, 10), (4, 9)])
        self.assertEqual(left(-HUGE + 3, [MILLION, 10, 9]), [(3, MILLION), (3, 10), (2, 9)])
        self.assertEqual(left(10 ** 6000 + 1, [MILLION, 7]), [(1, MILLION), ((10 ** 6000 + 1) % 7, 7)])

    def test_no_rounds(self):
        for number in (0, -5, HUGE):
            self.assertEqual(left(number, []), [])

    def test_rounds_at_the_bounds(self):
        self.assertEqual(left(1234567, [1, MILLION]), [(0, 1), (234567, MILLION)])
        self.assertEqual(left(0, [1, MILLION]), [(0, 1), (0, MILLION)])

    def test_kinds(self):
        answer = left(5, [3, 4])
        self.assertIs(type(answer), list)
        for pair in answer:
            self.assertIs(type(pair), tuple)

    def test_rests_come_again_from_what_is_told(self):
        turns = [1 + turn for turn in mixed(65, MILLION, seed=9)]
        rests = rests_of(HUGE - 5, turns)
        answer = self.is_of(told(rests), Number)
        for rounds_more in (0, 1, -1, -3, 10 ** 20):
            self.assertEqual(left(answer.number + rounds_more * answer.turn, turns), rests)


class RefusedTest(ToldCase):
    def test_told(self):
        for wrong in wrong_rests():
            self.refused(BadRests, told, wrong)

    def test_told_refuses_a_wrong_pair_behind_a_clash(self):
        self.refused(BadRests, told, [(0, 2), (1, 2), (2, 2)])
        self.refused(BadRests, told, [(0, 2), (1, 2), None])

    def test_left_of_what_is_no_whole_number(self):
        for wrong in NO_WHOLE_NUMBERS:
            self.refused(BadRests, left, wrong, [2, 3])
            self.refused(BadRests, left, wrong, [])

    def test_left_by_what_is_no_list_of_rounds(self):
        for wrong in list(NO_LISTS) + list(with_wrong_ones(NO_ROUNDS, [1, 5, MILLION])):
            self.refused(BadRests, left, 5, wrong)

    def test_left_of_both_wrong(self):
        for wrong in (None, True, "5", [5]):
            self.refused(BadRests, left, wrong, [0])
            self.refused(BadRests, left, wrong, None)


class KeptNothingTest(ToldCase):
    def test_rests_stay_and_are_not_kept(self):
        for rests in ([], [(2, 3), (3, 5)], [(0, 2), (1, 2)]):
            before = copy.deepcopy(rests)
            answer = told(rests)
            fields = dict(vars(answer))
            self.assertEqual(rests, before)
            rests.append((1, 11))
            rests[0] = (0, 1)
            self.assertEqual(vars(answer), fields)
            self.assertEqual(vars(told(before)), fields)

    def test_what_is_told_is_new(self):
        rests = [(2, 3), (3, 5)]
        answer = told(rests)
        answer.number = 99
        answer.turn = 0
        self.assertEqual(vars(told(rests)), {"number": 8, "turn": 15})
        answer = told([])
        answer.number = 99
        answer.turn = 0
        self.assertEqual(vars(told([])), {"number": 0, "turn": 1})
        self.assertEqual(vars(told(rests)), {"number": 8, "turn": 15})

    def test_rounds_stay_and_are_not_kept(self):
        turns = [3, 5]
        answer = left(8, turns)
        self.assertEqual(turns, [3, 5])
        turns.append(7)
        turns[0] = 1
        self.assertEqual(answer, [(2, 3), (3, 5)])
        answer.append((0, 1))
        answer[0] = None
        self.assertEqual(left(8, [3, 5]), [(2, 3), (3, 5)])
        self.assertEqual(turns, [1, 5, 7])

    def test_no_rounds_are_told_as_a_new_list(self):
        turns = []
        answer = left(8, turns)
        answer.append((0, 1))
        self.assertEqual(turns, [])
        self.assertEqual(left(8, []), [])
