"""Wishes and tables of shares, made of plain lists, and the prefixes of a person's shares."""

from wishlots.errors import NoTable, NoWishes
from wishlots.fractions import NOTHING, WHOLE, before, is_fraction, is_whole, plus, total

MOST_PEOPLE = 6


def is_listing(value):
    return isinstance(value, (list, tuple))


def has_people(rows):
    return is_listing(rows) and 1 <= len(rows) <= MOST_PEOPLE


def holds_each_once(row, count):
    # The numbers are looked at first: sorting takes no mix of kinds, and True would pass for 1.
    if not is_listing(row) or not all([is_whole(number) for number in row]):
        return False
    return sorted(row) == list(range(count))


def wishes_of(rows):
    if not has_people(rows):
        raise NoWishes("wishes have from one to six rows")
    for row in rows:
        if not holds_each_once(row, len(rows)):
            raise NoWishes("a row of wishes holds all things, each just once")
    return [tuple(row) for row in rows]


def is_share(value):
    return is_fraction(value) and not before(value, NOTHING) and not before(WHOLE, value)


def is_share_row(row, count):
    return is_listing(row) and len(row) == count and all([is_share(share) for share in row])


def table_of(rows):
    if not has_people(rows):
        raise NoTable("a table has from one to six rows")
    for row in rows:
        if not is_share_row(row, len(rows)):
            raise NoTable("a row holds a share from 0 to 1 for each thing")
        if total(row) != WHOLE:
            raise NoTable("the shares of each person come to 1")
    for thing in range(len(rows)):
        if total([row[thing] for row in rows]) != WHOLE:
            raise NoTable("the shares of each thing come to 1")
    return [tuple(row) for row in rows]


def prefixes(wish, shares):
    sums = []
    so_far = NOTHING
    for thing in wish:
        so_far = plus(so_far, shares[thing])
        sums.append(so_far)
    return tuple(sums)
