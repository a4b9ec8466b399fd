"""Wishes and tables for the tests that look at many of them: the same ones in each run."""

from fractions import Fraction
from itertools import permutations, product

FORTY = 10 ** 40 - 1


def worth(share):
    return Fraction(share[0], share[1])


def told(worth):
    return (worth.numerator, worth.denominator)


class Stream:
    """Numbers that look like chance and are the same under each Python."""

    def __init__(self, seed):
        self.state = seed

    def below(self, bound):
        number = 0
        for turn in range(5):
            self.state = (self.state * 6364136223846793005 + 1442695040888963407) % 2 ** 64
            number = number * 2 ** 32 + (self.state >> 32)
        return number % bound

    def row(self, count):
        numbers = list(range(count))
        return tuple(numbers.pop(self.below(len(numbers))) for turn in range(count))


def all_wishes(count):
    return [list(rows) for rows in product(permutations(range(count)), repeat=count)]


def mixed_wishes(count, number):
    orders = list(permutations(range(count)))
    state = 12345 + count
    wishes = []
    for turn in range(number):
        rows = []
        # Fewer unlike rows make more people meet at one thing.
        kinds = 2 + turn % len(orders)
        for person in range(count):
            state = (state * 1103515245 + 12345) % 2 ** 31
            rows.append(orders[(state >> 8) % kinds * 7 % len(orders)])
        wishes.append(rows)
    return wishes


def many_wishes():
    wishes = all_wishes(1) + all_wishes(2) + all_wishes(3)
    for count in (4, 5, 6):
        wishes = wishes + mixed_wishes(count, 150)
    return wishes


def table_from(weights, deals):
    rows = [[Fraction(0) for thing in deals[0]] for person in deals[0]]
    for weight, deal in zip(weights, deals):
        for person, thing in enumerate(deal):
            rows[person][thing] += weight
    return [tuple(told(share) for share in row) for row in rows]


def weights_of(stream, number, whole):
    # Cut at unlike places; where the whole is great and a cut near its end, parts are most unlike.
    cuts = {0, whole}
    while len(cuts) < number + 1:
        cuts.add(1 + stream.below(whole - 1) // 10 ** stream.below(len(str(whole))))
    places = sorted(cuts)
    return [Fraction(high - low, whole) for low, high in zip(places, places[1:])]


def mixed_tables(count, number, whole):
    """Pairs of wishes and a table, from tables of one deal to those of many."""
    stream = Stream(count * 1000 + number)
    pairs = []
    for turn in range(number):
        deals = [stream.row(count) for deal in range(1 + turn % 9)]
        rows = [stream.row(count) for kind in range(1 + stream.below(count))]
        wishes = [rows[stream.below(len(rows))] for person in range(count)]
        pairs.append((wishes, table_from(weights_of(stream, len(deals), whole), deals)))
    return pairs


def many_tables():
    pairs = []
    for count in range(1, 7):
        pairs = pairs + mixed_tables(count, 90, 24) + mixed_tables(count, 60, FORTY)
    return pairs
