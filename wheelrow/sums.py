"""Sums of numbers that their count goes into."""

from wheelrow.errors import BadCount, BadNumbers
from wheelrow.numbers import are_numbers, goes_into, turned_back


# Of n numbers there are n + 1 sums from the beginning on, that of none among them, and only n rests by n:
# so two sums leave the same, and n goes into what lies between them.
def stretch(numbers):
    if not are_numbers(numbers):
        raise BadNumbers("numbers are a list of whole numbers from -1000000 to 1000000")
    if len(numbers) == 0:
        raise BadCount("a stretch is one of one number or more")
    begins = {0: 0}
    last = 0
    total = numbers[0] % len(numbers)
    while total not in begins:
        last = last + 1
        begins[total] = last
        total = (total + numbers[last]) % len(numbers)
    return (begins[total], last)


def chosen(numbers):
    if not are_numbers(numbers):
        raise BadNumbers("numbers are a list of whole numbers from -1000000 to 1000000")
    if len(numbers) % 2 == 0:
        raise BadCount("numbers are chosen of an odd count")
    groups = [(number, [place]) for place, number in enumerate(numbers)]
    for prime in primes_of((len(numbers) + 1) // 2):
        groups = grouped(groups, prime)
    return sorted(groups[0][1])


def primes_of(count):
    primes = []
    left = count
    prime = 2
    while left > 1:
        # A number that none of its lesser parts up to its root goes into is a prime itself.
        if prime * prime > left:
            prime = left
        if goes_into(prime, left):
            primes.append(prime)
            left = left // prime
        else:
            prime = prime + 1
    return primes


# A group is a pair of a number and its places; the prime goes into the numbers of those that are put together.
# Of 2 p m - 1 groups come 2 m - 1: one as soon as 2 p - 1 are held, and one more of every p that follow.
def grouped(groups, prime):
    made = []
    held = []
    for group in groups:
        held.append(group)
        if len(held) == 2 * prime - 1:
            picks = picked([number for number, places in held], prime)
            made.append(together([held[pick] for pick in picks], prime))
            taken = dict([(pick, True) for pick in picks])
            held = [other for place, other in enumerate(held) if place not in taken]
    return made


def together(groups, prime):
    total = 0
    places = []
    for group in groups:
        total = total + group[0]
        places.extend(group[1])
    return (total // prime, places)


# Picks of 2 p - 1 numbers p whose sum the prime p goes into.
def picked(numbers, prime):
    order = sorted(range(len(numbers)), key=lambda place: numbers[place] % prime)
    rests = [numbers[place] % prime for place in order]
    for low in range(1, prime):
        # Sorted, so all p from the one to the other are alike.
        if rests[low] == rests[low + prime - 1]:
            return order[low:low + prime]
    # The first p are taken, and some but the very first are changed for those that lie p - 1 further on.
    gains = [rests[low + prime - 1] - rests[low] for low in range(prime)]
    wanted = -sum(rests[:prime]) % prime
    changed = changes(gains, wanted, prime)
    return [order[low + prime - 1] if low in changed else order[low] for low in range(prime)]


# Places of gains, the first left out, that all together leave what is wanted by the prime.
def changes(gains, wanted, prime):
    reached = reached_sums(gains, wanted, prime)
    changed = {}
    total = wanted
    while total != 0:
        place = reached[total]
        changed[place] = True
        total = (total - gains[place]) % prime
    return changed


# Sums by the prime, each with the place of the last gain in it. Every gain brings a new one,
# so with all p - 1 gains each of the p sums is reached, also the wanted one.
def reached_sums(gains, wanted, prime):
    reached = {0: 0}
    for place in range(1, prime):
        if wanted in reached:
            return reached
        reached[new_sum(reached, gains[place], wanted, prime)] = place
    return reached


# In steps of the gain one gets from 0, which is reached, to what is wanted, which isn't:
# somewhere on the way a step leads out of what is reached.
def new_sum(reached, gain, wanted, prime):
    inside = 0
    outside = wanted * turned_back(gain, prime) % prime
    while outside - inside > 1:
        middle = (inside + outside) // 2
        if middle * gain % prime in reached:
            inside = middle
        else:
            outside = middle
    return outside * gain % prime
