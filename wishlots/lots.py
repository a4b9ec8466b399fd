"""Lots: a table made into whole deals with weights, and the deal that a fraction picks."""

from wishlots.errors import NoPick
from wishlots.fractions import NOTHING, WHOLE, before, least, minus, plus


def deal_within(left, begun):
    # As long as all people and all things have equally much left there is such a deal,
    # but the first thing of a person need not leave one for the others.
    person = len(begun)
    if person == len(left):
        return begun
    for thing, part in enumerate(left[person]):
        if part != NOTHING and thing not in begun:
            deal = deal_within(left, begun + (thing,))
            if deal is not None:
                return deal
    return None


def row_without(row, thing, weight):
    rest = list(row)
    rest[thing] = minus(row[thing], weight)
    return rest


def lots_of(table):
    # The weight uses up a share with each deal, and with the last one a share of each person:
    # so no deal comes twice, and there are no more deals than are promised.
    left = [list(row) for row in table]
    spent = NOTHING
    lots = []
    while spent != WHOLE:
        deal = deal_within(left, ())
        weight = least([row[thing] for row, thing in zip(left, deal)])
        left = [row_without(row, thing, weight) for row, thing in zip(left, deal)]
        spent = plus(spent, weight)
        lots.append((weight, deal))
    return lots


def picked(lots, number):
    if before(number, NOTHING) or not before(number, WHOLE):
        raise NoPick("a deal is picked by a fraction from 0 on and less than 1")
    place = 0
    so_far = lots[0][0]
    while not before(number, so_far):
        place = place + 1
        so_far = plus(so_far, lots[place][0])
    return lots[place][1]
