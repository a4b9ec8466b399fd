"""Eating: all people eat at once, each from the thing that they like best of what is left."""

from wishlots.fractions import NOTHING, WHOLE, least, minus, plus, times, total


def best_left(wish, left):
    return [thing for thing in wish if left[thing] != NOTHING][0]


def time_to_stop(dishes, left):
    # A thing of which several people eat is gone so many times sooner.
    return least([times(left[thing], (1, dishes.count(thing))) for thing in dishes])


def left_behind(dishes, left, length):
    return [minus(part, times((dishes.count(thing), 1), length)) for thing, part in enumerate(left)]


def courses_of(wishes):
    # Between two stops nobody changes the thing they eat from, so a course is told
    # by its length, the thing of each person, and the things that are gone behind it.
    left = [WHOLE for wish in wishes]
    courses = []
    while total(left) != NOTHING:
        dishes = [best_left(wish, left) for wish in wishes]
        length = time_to_stop(dishes, left)
        left = left_behind(dishes, left, length)
        gone = [thing for thing in sorted(set(dishes)) if left[thing] == NOTHING]
        courses.append((length, dishes, tuple(gone)))
    return courses


def eaten_of(courses, person, thing):
    return total([length for length, dishes, gone in courses if dishes[person] == thing])


def eaten_by(courses, person, count):
    return tuple([eaten_of(courses, person, thing) for thing in range(count)])


def eaten(wishes):
    courses = courses_of(wishes)
    return [eaten_by(courses, person, len(wishes)) for person in range(len(wishes))]


def stops(wishes):
    told = []
    moment = NOTHING
    for length, dishes, gone in courses_of(wishes):
        moment = plus(moment, length)
        told.append((moment, gone))
    return told
