"""Numbers told by their rests, and the rests that a number leaves."""

from wheelrow.answers import Clash, Number
from wheelrow.errors import BadRests
from wheelrow.numbers import are_rests, are_rounds, goes_into, is_whole, part_with_times


def told(rests):
    if not are_rests(rests):
        raise BadRests("rests are a list of pairs of a rest and its round")
    so_far = Number(0, 1)
    for place, pair in enumerate(rests):
        following = joined(so_far, pair[0], pair[1])
        if following is None:
            return clash_with_earlier(rests, place)
        so_far = following
    return so_far


# None if no number that was so far in play leaves the rest.
def joined(so_far, rest, turn):
    # The round so far may be huge; what it leaves by the new one is enough here, and small.
    made = part_with_times(so_far.turn % turn, turn)
    part = made[0]
    missing = (rest - so_far.number) % turn
    if not goes_into(part, missing):
        return None
    fresh = turn // part
    steps = missing // part * made[1] % fresh
    return Number(so_far.number + steps * so_far.turn, so_far.turn * fresh)


# Rests of which no two clash are left by one number all together,
# so a rest that doesn't go with all the earlier ones clashes with a single one of them.
def clash_with_earlier(rests, place):
    clashes = [earlier for earlier in range(place) if Clash(earlier, place).shows(rests)]
    return Clash(clashes[0], place)


def left(number, rounds):
    if not is_whole(number):
        raise BadRests("rests are left by a whole number")
    if not are_rounds(rounds):
        raise BadRests("rests are left by a list of rounds from 1 to 1000000")
    return [(number % turn, turn) for turn in rounds]
