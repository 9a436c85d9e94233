"""What several test files need: things of other kinds, numbers that look mixed, and refusals told by their class."""

import unittest

MILLION = 1000000
HUGE = 10 ** 60
# More figures than Python turns into a text or back by itself.
BEYOND_PRINTING = 10 ** 6000

# None of these is a whole number, a list or a tuple.
OTHER_KINDS = (None, "", "1", "-", "[]", 1.0, float("nan"), 1j, b"1", {}, {0: 1}, {0, 1}, object(), len, int, range(2))
NO_WHOLE_NUMBERS = OTHER_KINDS + (True, False, [], [1], (), (1,), (0, 1))
NO_LISTS = OTHER_KINDS + (True, False, 0, 5, -7, (), (1,), (1, 2), ((1, 2),), ((0, 1), (1, 2)), {(0, 1): 1})

NO_NUMBERS = NO_WHOLE_NUMBERS + (-MILLION - 1, MILLION + 1, HUGE, -HUGE, BEYOND_PRINTING)
NO_ROUNDS = NO_WHOLE_NUMBERS + (0, -1, -5, -MILLION, MILLION + 1, HUGE, BEYOND_PRINTING)
NO_PAIRS = OTHER_KINDS + (
    True, 0, 7, [], [0], [0, 1], [2, 3], (), (0,), (2, 3, 5), ((2, 3),), ((2, 3), (1, 2)), ([2, 3],),
    (-1, 3), (3, 3), (4, 3), (1, 1), (0, 0), (-1, 0), (0, -5), (-1, -5), (0, MILLION + 1), (MILLION, MILLION),
    (0, HUGE), (BEYOND_PRINTING, 3), (BEYOND_PRINTING, BEYOND_PRINTING + 1),
) + tuple((wrong, 7) for wrong in NO_WHOLE_NUMBERS) + tuple((0, wrong) for wrong in NO_WHOLE_NUMBERS)


def mixed(count, below, seed=1):
    """As many whole numbers from 0 to one less than below, the same at every run."""
    state = seed
    numbers = []
    for _ in range(count):
        state = (state * 6364136223846793005 + 1442695040888963407) % 2 ** 64
        numbers.append((state >> 24) % below)
    return numbers


def mixed_numbers(count, greatest=MILLION, seed=1):
    """Numbers from -greatest to greatest."""
    return [number - greatest for number in mixed(count, 2 * greatest + 1, seed)]


def with_wrong_ones(wrongs, good):
    """Each wrong thing by itself, and ahead of, amid and behind good ones."""
    half = len(good) // 2
    for wrong in wrongs:
        yield [wrong]
        yield [wrong] + good
        yield good[:half] + [wrong] + good[half:]
        yield good + [wrong]


def wrong_numbers():
    return list(NO_LISTS) + list(with_wrong_ones(NO_NUMBERS, [4, -6, 0, 9]))


def wrong_rests():
    return list(NO_LISTS) + list(with_wrong_ones(NO_PAIRS, [(1, 2), (2, 3), (0, 1), (4, 7)]))


class ToldCase(unittest.TestCase):
    def refused(self, error, function, *given):
        # A bare class check would pass a sister or a class under the one that is told.
        try:
            function(*given)
        except Exception as taken:
            self.assertIs(type(taken), error, f"{function.__name__}, {[type(value) for value in given]}")
        else:
            self.fail(f"{function.__name__} took {[type(value) for value in given]}")

    def is_of(self, answer, kind):
        self.assertIs(type(answer), kind)
        return answer
