"""Common parts of numbers, how they come to a rest by a round, and what turns them back."""

from wheelrow.answers import Back, Bar, Common, Times
from wheelrow.errors import BadNumbers, BadRest, BadRound
from wheelrow.numbers import are_numbers, goes_into, is_number, is_rest, is_round, part_with_times, turned_back


def common(numbers):
    if not are_numbers(numbers):
        raise BadNumbers("numbers are a list of whole numbers from -1000000 to 1000000")
    return common_of(numbers)


def common_of(numbers):
    steps = []
    part = 0
    for number in numbers:
        step = part_with_times(part, number)
        steps.append(step)
        part = step[0]
    return Common(part, times_of(steps))


# Each step makes its part of the part before it and of its own number. Walked from the last step on,
# how often the earlier part is due is known, and each number's times are multiplied only once.
def times_of(steps):
    times = []
    due = 1
    for step in reversed(steps):
        times.append(due * step[2])
        due = due * step[1]
    return list(reversed(times))


def come(numbers, turn, rest):
    if not are_numbers(numbers):
        raise BadNumbers("numbers are a list of whole numbers from -1000000 to 1000000")
    if not is_round(turn):
        raise BadRound("a round is a whole number from 1 to 1000000")
    if not is_rest(rest, turn):
        raise BadRest("a rest is a whole number from 0 to one less than its round")
    # The round counts as one more number: how often it is taken makes no odds to what is left by it.
    made = common_of(numbers + [turn])
    if not goes_into(made.part, rest):
        return Bar(made.part)
    parts = rest // made.part
    return Times([often * parts % turn for often in made.times[:-1]])


def back(number, turn):
    if not is_number(number):
        raise BadNumbers("a number is a whole number from -1000000 to 1000000")
    if not is_round(turn):
        raise BadRound("a round is a whole number from 1 to 1000000")
    part = part_with_times(number, turn)[0]
    if part > 1:
        return Bar(part)
    return Back(turned_back(number, turn))
