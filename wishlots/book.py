"""The book: people and things by words, their wishes by texts, and what comes of them."""

from wishlots.eating import eaten
from wishlots.errors import NoPerson, NoRoll, NoWay, NoWishes, Unready
from wishlots.fractions import NOTHING
from wishlots.lots import lots_of, picked
from wishlots.tables import has_people
from wishlots.turns import by_turns

MOST_SIGNS = 12


def is_word(value):
    if not isinstance(value, str) or not 1 <= len(value) <= MOST_SIGNS:
        return False
    return all(["a" <= sign <= "z" for sign in value])


def is_roll(words):
    return has_people(words) and all([is_word(word) for word in words]) and len(set(words)) == len(words)


class Book:
    def __init__(self, people, things):
        if not is_roll(people) or not is_roll(things) or len(people) != len(things):
            raise NoRoll("a book has as many people as things, from one to six unlike words of each")
        self.people = tuple(people)
        self.things = tuple(things)
        self.wishes_told = {}

    def check_person(self, person):
        if person not in self.people:
            raise NoPerson("nobody is called so")

    def wish(self, person, text):
        self.check_person(person)
        words = text.split(" ")
        if sorted(words) != sorted(self.things):
            raise NoWishes("wishes are all things, each once, with one blank between them")
        self.wishes_told[person] = tuple([self.things.index(word) for word in words])

    def lacking(self):
        return [person for person in self.people if person not in self.wishes_told]

    def table_by(self, way):
        if self.lacking():
            raise Unready("somebody's wishes lack")
        wishes = [self.wishes_told[person] for person in self.people]
        if way == "eaten":
            return eaten(wishes)
        if way == "turns":
            return by_turns(wishes)
        raise NoWay("the ways are eaten and turns")

    def shares(self, person, way):
        self.check_person(person)
        table = self.table_by(way)
        row = table[self.people.index(person)]
        return [(self.things[thing], row[thing]) for thing in self.wishes_told[person] if row[thing] != NOTHING]

    def deal(self, way, number):
        lots = lots_of(self.table_by(way))
        words = [self.things[thing] for thing in picked(lots, number)]
        return list(zip(self.people, words))
