"""Looks at a table: who would rather have another one's shares, and which ring could change shares."""

from wishlots.fractions import NOTHING, before, least, minus, plus
from wishlots.tables import prefixes


def first_greater(own, others):
    for place in range(len(own)):
        if before(own[place], others[place]):
            return place
    return None


def rather(wishes, table):
    for person, wish in enumerate(wishes):
        own = prefixes(wish, table[person])
        for other, shares in enumerate(table):
            place = first_greater(own, prefixes(wish, shares))
            if place is not None:
                return (person, other, place)
    return None


def changers_of(wishes, table, floor):
    # For each pair (given, taken) one person is enough who would change so, with a share above the floor.
    changers = {}
    for person, wish in enumerate(wishes):
        for place, given in enumerate(wish):
            if before(floor, table[person][given]):
                for taken in wish[:place]:
                    changers[(given, taken)] = person
    return changers


def way_back(changers, start, count):
    # The shorter ways are walked first, so the first one that leads back is a shortest one.
    ways = [[start]]
    reached = {}
    while ways:
        way = ways.pop(0)
        for given in range(count):
            if given not in reached and (given, way[-1]) in changers:
                if given == start:
                    return way
                reached[given] = True
                ways.append(way + [given])
    return None


def ring_of(changers, count):
    # In a shortest ring nobody stands twice: they could take the better of the two things they take
    # for the thing that they give at the other place, and the ring without what lies between is shorter.
    ways = [way_back(changers, start, count) for start in range(count)]
    rings = [way for way in ways if way is not None]
    if not rings:
        return None
    things = min(rings, key=len)
    gifts = things[1:] + things[:1]
    return [(changers[(given, taken)], given, taken) for taken, given in zip(things, gifts)]


def step_of(table, ring):
    return least([table[person][given] for person, given, taken in ring])


def widest_ring(wishes, table):
    # By rings of small steps a small share could go to and fro almost without end; by rings
    # of the greatest step the tables behind the changes soon come to one without a ring.
    ring = None
    wider = ring_of(changers_of(wishes, table, NOTHING), len(wishes))
    while wider is not None:
        ring = wider
        wider = ring_of(changers_of(wishes, table, step_of(table, ring)), len(wishes))
    return ring


def row_behind(shares, given, taken, step):
    row = list(shares)
    row[given] = minus(row[given], step)
    row[taken] = plus(row[taken], step)
    return tuple(row)


def table_behind(table, ring):
    step = step_of(table, ring)
    behind = [tuple(row) for row in table]
    for person, given, taken in ring:
        behind[person] = row_behind(table[person], given, taken, step)
    return behind


def is_kept(given, things, changers):
    return not any([(given, taken) in changers for taken in things])


def first_kept(things, changers):
    # Where there is no ring, there is always a thing that nobody would give for another one of these.
    return [given for given in things if is_kept(given, things, changers)][0]


def order_of(changers, count):
    things = list(range(count))
    order = []
    while things:
        thing = first_kept(things, changers)
        things.remove(thing)
        order.append(thing)
    return order


def ring_or_order(wishes, table):
    ring = widest_ring(wishes, table)
    if ring is None:
        return (True, order_of(changers_of(wishes, table, NOTHING), len(wishes)))
    return (False, (ring, table_behind(table, ring)))
