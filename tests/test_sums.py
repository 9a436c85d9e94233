import copy
import itertools

from tests.helpers import MILLION, ToldCase, mixed_numbers, wrong_numbers
from wheelrow.errors import BadCount, BadNumbers
from wheelrow.sums import chosen, stretch


class StretchTest(ToldCase):
    def told_rightly(self, numbers):
        pair = stretch(numbers)
        self.assertIs(type(pair), tuple)
        self.assertEqual(len(pair), 2)
        first, last = pair
        self.assertIs(type(first), int)
        self.assertIs(type(last), int)
        self.assertTrue(0 <= first <= last < len(numbers), (pair, numbers))
        self.assertEqual(sum(numbers[first:last + 1]) % len(numbers), 0, (pair, numbers))
        return pair

    def test_one_number(self):
        for number in (-MILLION, -1, 0, 1, 7, MILLION):
            self.assertEqual(self.told_rightly([number]), (0, 0))

    def test_a_number_that_the_count_goes_into(self):
        self.assertEqual(self.told_rightly([3, 1, 1]), (0, 0))
        self.assertEqual(self.told_rightly([1, -3, 1]), (1, 1))
        self.assertEqual(self.told_rightly([1, 1, 0]), (2, 2))

    def test_over_all(self):
        self.assertEqual(self.told_rightly([1, 1, 1]), (0, 2))
        self.assertEqual(self.told_rightly([-1, -1, -1, -1]), (0, 3))

    def test_each_place_of_the_only_stretch(self):
        seen = set()
        for numbers in itertools.product(range(5), repeat=5):
            found = [
                (first, last) for first in range(5) for last in range(first, 5)
                if sum(numbers[first:last + 1]) % 5 == 0
            ]
            pair = self.told_rightly(list(numbers))
            if len(found) == 1:
                seen.add(pair)
        # At the beginning, in the middle, at the end, and over all.
        self.assertEqual(seen, {(first, last) for first in range(5) for last in range(first, 5)})

    def test_all_small_ones(self):
        for count in (1, 2, 3, 4):
            for numbers in itertools.product(range(-4, 5), repeat=count):
                self.told_rightly(list(numbers))

    def test_numbers_below_nought_and_at_the_bounds(self):
        for numbers in itertools.product((-MILLION, 1 - MILLION, MILLION - 1, MILLION), repeat=6):
            self.told_rightly(list(numbers))

    def test_many(self):
        for count in (60, 61, 64, 1000, 9973):
            self.told_rightly(mixed_numbers(count, seed=count))
            self.told_rightly([1] * count)
            self.told_rightly([-1] * count)


class ChosenTest(ToldCase):
    def told_rightly(self, numbers):
        places = chosen(numbers)
        count = (len(numbers) + 1) // 2
        self.assertIs(type(places), list)
        self.assertTrue(all(type(place) is int for place in places))
        self.assertEqual(len(places), count)
        self.assertEqual(places, sorted(set(places)))
        self.assertTrue(0 <= places[0] and places[-1] < len(numbers), places)
        self.assertEqual(sum(numbers[place] for place in places) % count, 0, numbers)
        return places

    def mixed_up(self, numbers, step):
        return [numbers[place * step % len(numbers)] for place in range(len(numbers))]

    def test_one_number(self):
        for number in (-MILLION, -1, 0, 1, MILLION):
            self.assertEqual(self.told_rightly([number]), [0])

    def test_the_only_choice(self):
        self.assertEqual(self.told_rightly([0, 1, 0]), [0, 2])
        self.assertEqual(self.told_rightly([1, 2, 4]), [1, 2])

    def test_all_of_three(self):
        for numbers in itertools.product(range(-4, 5), repeat=3):
            self.told_rightly(list(numbers))

    def test_all_of_five(self):
        for numbers in itertools.product(range(-2, 4), repeat=5):
            self.told_rightly(list(numbers))

    def test_all_of_seven(self):
        for numbers in itertools.product(range(4), repeat=7):
            self.told_rightly(list(numbers))

    def test_nine(self):
        for numbers in itertools.combinations_with_replacement(range(-2, 3), 9):
            self.told_rightly(list(numbers))
            self.told_rightly(list(numbers)[::-1])
            self.told_rightly(self.mixed_up(list(numbers), 2))
            self.told_rightly(self.mixed_up(list(numbers), 4))

    def test_eleven(self):
        for numbers in itertools.combinations_with_replacement(range(6), 11):
            self.told_rightly(self.mixed_up(list(numbers), 3))

    def test_sixty_three(self):
        for seed in range(40):
            self.told_rightly(mixed_numbers(63, seed=seed))
            self.told_rightly(mixed_numbers(63, greatest=1 + seed % 4, seed=seed))

    def counts(self):
        # Primes, powers of 2 and of others, and products.
        return (1, 2, 3, 4, 5, 6, 7, 8, 9, 11, 12, 13, 16, 25, 27, 30, 31, 32, 36, 49, 60, 64, 77, 97, 210)

    def test_counts_of_many_sorts(self):
        for count in self.counts():
            for greatest in (1, 2, count, MILLION):
                self.told_rightly(mixed_numbers(2 * count - 1, greatest, seed=count))

    def test_all_alike(self):
        for count in self.counts():
            for number in (-MILLION, -7, 0, 1, MILLION):
                self.told_rightly([number] * (2 * count - 1))

    def test_two_sorts_of_numbers_that_just_reach(self):
        for count in self.counts():
            for one, other, odd in ((0, 1, 0), (0, 1, 1), (0, 1, 2), (5, -3, 1), (-MILLION, MILLION, 1)):
                # One less than the count of each: one number more, and only then is there a choice.
                numbers = [one] * (count - 1) + [other] * (count - 1) + [odd]
                self.told_rightly(numbers)
                self.told_rightly(numbers[::-1])
                self.told_rightly([one, other] * (count - 1) + [odd])

    def test_numbers_in_a_row(self):
        for count in self.counts():
            self.told_rightly(list(range(2 * count - 1)))
            self.told_rightly(list(range(-count, count - 1)))
            self.told_rightly([MILLION - place for place in range(2 * count - 1)])
            self.told_rightly([place - MILLION for place in range(2 * count - 1)])

    def test_very_many(self):
        for count in (1009, 1024, 2310):
            self.told_rightly(mixed_numbers(2 * count - 1, seed=count))
            self.told_rightly([0] * (count - 1) + [1] * count)
            self.told_rightly([0, 1] * (count - 1) + [2])


class RefusedTest(ToldCase):
    def test_numbers(self):
        for wrong in wrong_numbers():
            self.refused(BadNumbers, stretch, wrong)
            self.refused(BadNumbers, chosen, wrong)

    def test_no_numbers(self):
        self.refused(BadCount, stretch, [])
        self.refused(BadCount, chosen, [])

    def test_an_even_count(self):
        for count in (2, 4, 6, 62, 64):
            self.refused(BadCount, chosen, [0] * count)
            self.refused(BadCount, chosen, list(range(count)))

    def test_numbers_ahead_of_count(self):
        for wrong in (MILLION + 1, -MILLION - 1, True, None, "1", [1], (1,)):
            self.refused(BadNumbers, chosen, [wrong, 1])
            self.refused(BadNumbers, chosen, [1, wrong])
            self.refused(BadNumbers, chosen, [1, 2, wrong, 3])
        for wrong in ((), "", {}, None, 0, False):
            self.refused(BadNumbers, chosen, wrong)
            self.refused(BadNumbers, stretch, wrong)


class KeptNothingTest(ToldCase):
    def check(self, function, numbers):
        before = copy.deepcopy(numbers)
        answer = function(numbers)
        told = copy.deepcopy(answer)
        self.assertEqual(numbers, before)
        numbers.append(3)
        numbers[0] = 4
        self.assertEqual(answer, told)
        if isinstance(answer, list):
            answer.append(9)
            answer[0] = -9
        self.assertEqual(function(before), told)

    def test_stretch(self):
        for numbers in ([5], [1, 1, 1], [3, 1, -4, 1], [0, 0]):
            self.check(stretch, numbers)

    def test_chosen(self):
        for numbers in ([5], [1, 1, 1], [3, 1, -4, 1, 5], [3, 2, 1, 0, 1, 2, 3]):
            self.check(chosen, numbers)
