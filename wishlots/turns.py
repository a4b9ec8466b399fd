"""Turns: the deal of an order of the people, and the table that comes of all orders."""

from wishlots.errors import NoOrder
from wishlots.fractions import fraction
from wishlots.tables import holds_each_once


def best_free(wish, taken):
    return [thing for thing in wish if thing not in taken][0]


def deal_by(wishes, order):
    if not holds_each_once(order, len(wishes)):
        raise NoOrder("an order holds all people, each just once")
    taken = []
    for person in order:
        taken.append(best_free(wishes[person], taken))
    things = dict(zip(order, taken))
    return tuple([things[person] for person in range(len(wishes))])


def with_one(numbers, number):
    return tuple(sorted(numbers + (number,)))


def turns_from(wishes, gone, taken):
    people = [person for person in range(len(wishes)) if person not in gone]
    return [(person, best_free(wishes[person], taken)) for person in people]


def orders_of(count):
    orders = 1
    for number in range(1, count + 1):
        orders = orders * number
    return orders


def counts_of(wishes):
    # Beginnings of orders with the same people gone and the same things taken go on alike,
    # so they are counted as one, with their number.
    counts = {}
    beginnings = {((), ()): 1}
    for turn in range(len(wishes)):
        endings = orders_of(len(wishes) - turn - 1)
        longer = {}
        for beginning, number in beginnings.items():
            for person, thing in turns_from(wishes, beginning[0], beginning[1]):
                counts[(person, thing)] = counts.get((person, thing), 0) + number * endings
                state = (with_one(beginning[0], person), with_one(beginning[1], thing))
                longer[state] = longer.get(state, 0) + number
        beginnings = longer
    return counts


def shares_by_turns(counts, person, count):
    orders = orders_of(count)
    return tuple([fraction(counts.get((person, thing), 0), orders) for thing in range(count)])


def by_turns(wishes):
    counts = counts_of(wishes)
    return [shares_by_turns(counts, person, len(wishes)) for person in range(len(wishes))]
