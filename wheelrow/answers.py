"""The answers that are told, each with the truth of whether it is as told."""

from wheelrow.numbers import common_part, common_turn, goes_into, leaves


def all_together(numbers, times):
    return sum([number * often for number, often in zip(numbers, times)])


class Answer:
    pass


class Number(Answer):
    def __init__(self, number, turn):
        self.number = number
        self.turn = turn

    def shows(self, rests):
        if not 0 <= self.number < self.turn:
            return False
        if not all([leaves(self.number, rest, turn) for rest, turn in rests]):
            return False
        # Numbers that leave all of the rests lie apart by just what every round goes into.
        return self.turn == common_turn([turn for rest, turn in rests])


class Clash(Answer):
    def __init__(self, one, other):
        self.one = one
        self.other = other

    def shows(self, rests):
        if not 0 <= self.one < self.other < len(rests):
            return False
        first = rests[self.one]
        second = rests[self.other]
        # Steps of both rounds together reach just what their common part goes into.
        return not leaves(first[0], second[0], common_part([first[1], second[1]]))


class Common(Answer):
    def __init__(self, part, times):
        self.part = part
        self.times = list(times)

    def shows(self, numbers):
        if len(self.times) != len(numbers) or self.part != common_part(numbers):
            return False
        return all_together(numbers, self.times) == self.part


class Times(Answer):
    def __init__(self, times):
        self.times = list(times)

    def shows(self, numbers, turn, rest):
        if len(self.times) != len(numbers):
            return False
        if not all([0 <= often < turn for often in self.times]):
            return False
        return leaves(all_together(numbers, self.times), rest, turn)


class Bar(Answer):
    def __init__(self, part):
        self.part = part

    def shows(self, numbers, turn, rest):
        if self.part <= 1 or goes_into(self.part, rest):
            return False
        return goes_into(self.part, turn) and all([goes_into(self.part, number) for number in numbers])

    def bars(self, number, turn):
        return self.part > 1 and goes_into(self.part, number) and goes_into(self.part, turn)


class Back(Answer):
    def __init__(self, rest):
        self.rest = rest

    def shows(self, number, turn):
        # By a round of 1 what leaves 0 leaves 1 too, so that round needs no case of its own.
        return 0 <= self.rest < turn and leaves(number * self.rest, 1, turn)
