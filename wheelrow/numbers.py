"""What rounds, rests and numbers are, and how numbers go into one another."""

GREATEST_ROUND = 1000000
GREATEST_NUMBER = 1000000


def is_whole(value):
    # Python counts True and False as 1 and 0; here they are no numbers.
    return isinstance(value, int) and not isinstance(value, bool)


def is_number(value):
    return is_whole(value) and -GREATEST_NUMBER <= value <= GREATEST_NUMBER


def are_numbers(value):
    return isinstance(value, list) and all([is_number(number) for number in value])


# A round is called turn throughout, as Number's field is: round is a name of Python's own.
def is_round(value):
    return is_whole(value) and 1 <= value <= GREATEST_ROUND


def are_rounds(value):
    return isinstance(value, list) and all([is_round(turn) for turn in value])


def is_rest(value, turn):
    return is_round(turn) and is_whole(value) and 0 <= value < turn


def is_rest_pair(value):
    return isinstance(value, tuple) and len(value) == 2 and is_rest(value[0], value[1])


def are_rests(value):
    return isinstance(value, list) and all([is_rest_pair(pair) for pair in value])


def goes_into(part, number):
    return number % part == 0


def leaves(number, rest, turn):
    return goes_into(turn, number - rest)


def common_part_of_two(one, other):
    part = abs(one)
    left = abs(other)
    while left != 0:
        following = part % left
        part = left
        left = following
    return part


# A triple: the common part, and how often the one and the other go to make it.
def part_with_times(one, other):
    part = abs(one)
    often = 1
    left = abs(other)
    left_often = 0
    while left != 0:
        whole = part // left
        following = part - whole * left
        following_often = often - whole * left_often
        part = left
        often = left_often
        left = following
        left_often = following_often
    if one < 0:
        often = -often
    # What the one leaves short of the part is due from the other; nothing is due from a nought.
    other_often = 0 if other == 0 else (part - often * one) // other
    return (part, often, other_often)


# Asked only of a number that has no common part above 1 with the round.
def turned_back(number, turn):
    return part_with_times(number, turn)[1] % turn


# Every number goes into 0, so a start at 0 takes nothing from the part, and stays where nothing else comes.
def common_part(numbers):
    part = 0
    for number in numbers:
        part = common_part_of_two(part, number)
    return part


# 1 is the start because without any round all whole numbers are in play, and they lie 1 apart.
def common_turn(turns):
    whole = 1
    for turn in turns:
        whole = whole // common_part_of_two(whole, turn) * turn
    return whole
