import copy
import unittest
from fractions import Fraction
from itertools import permutations

from tests.samples import FORTY, many_wishes, told, worth
from wishlots.book import Book
from wishlots.eating import eaten
from wishlots.errors import NoPerson, NoPick, NoRoll, NoWay, NoWishes, Unready
from wishlots.lots import lots_of, picked
from wishlots.turns import by_turns

NIL = (0, 1)
ONE = (1, 1)
HALF = (1, 2)
PEOPLE = ["ada", "ben", "cleo", "dora", "emil", "fred"]
THINGS = ["lamp", "book", "chair", "vase", "bell", "drum"]
TABLES = {"eaten": eaten, "turns": by_turns}


def text_of(wish):
    return " ".join(THINGS[thing] for thing in wish)


def book_of(wishes):
    book = Book(PEOPLE[:len(wishes)], THINGS[:len(wishes)])
    for person, wish in zip(PEOPLE, wishes):
        book.wish(person, text_of(wish))
    return book


def three():
    return book_of([(0, 1, 2), (0, 2, 1), (1, 0, 2)])


class Rolls(unittest.TestCase):
    def refused(self, people, things):
        kept = copy.deepcopy((people, things))
        with self.subTest(people=people, things=things), self.assertRaises(NoRoll):
            Book(people, things)
        self.assertEqual((people, things), kept)

    def refused_word(self, word):
        for count in (1, 2, 6):
            for place in range(count):
                self.refused(PEOPLE[:place] + [word] + PEOPLE[place + 1:count], THINGS[:count])
                self.refused(PEOPLE[:count], THINGS[:place] + [word] + THINGS[place + 1:count])

    def test_one_to_six_words(self):
        for count in range(1, 7):
            book = Book(PEOPLE[:count], THINGS[:count])
            self.assertEqual(book.lacking(), PEOPLE[:count])
            for person in PEOPLE[:count]:
                self.assertIsNone(book.wish(person, " ".join(THINGS[:count])))

    def test_by_name(self):
        self.assertEqual(Book(people=["ada"], things=["lamp"]).lacking(), ["ada"])

    def test_a_person_and_a_thing_called_alike(self):
        book = Book(["a", "b"], ["b", "a"])
        book.wish("a", "a b")
        book.wish("b", "b a")
        self.assertEqual(book.deal("eaten", NIL), [("a", "a"), ("b", "b")])
        book = Book(PEOPLE, PEOPLE)
        for person in PEOPLE:
            book.wish(person, " ".join([person] + [other for other in PEOPLE if other != person]))
        self.assertEqual(book.deal("turns", HALF), list(zip(PEOPLE, PEOPLE)))

    def test_words_of_one_and_of_twelve_signs(self):
        book = Book(["a", "abcdefghijkl"], ["mnopqrstuvwx", "z"])
        book.wish("abcdefghijkl", "z mnopqrstuvwx")
        book.wish("a", "mnopqrstuvwx z")
        self.assertEqual(book.deal("eaten", NIL), [("a", "mnopqrstuvwx"), ("abcdefghijkl", "z")])

    def test_words_that_are_another_ones_beginning(self):
        people = ["a", "aa", "aaa"]
        things = ["bbb", "b", "bb"]
        book = Book(people, things)
        book.wish("aa", "b bb bbb")
        self.assertEqual(book.lacking(), ["a", "aaa"])
        book.wish("a", "bbb bb b")
        book.wish("aaa", "bb b bbb")
        self.assertEqual(book.deal("turns", NIL), [("a", "bbb"), ("aa", "b"), ("aaa", "bb")])
        for text in ("bb bb bb", "b b bbb bb", "bbbb bb", "bbbbbb", "b bbbbb"):
            with self.assertRaises(NoWishes):
                book.wish("a", text)

    def test_none_and_seven(self):
        self.refused([], [])
        self.refused(PEOPLE + ["gus"], THINGS + ["door"])
        self.refused(PEOPLE + ["gus", "hal"], THINGS + ["door", "desk"])

    def test_lists_of_unlike_length(self):
        for many in range(7):
            for few in range(many):
                self.refused(PEOPLE[:many], THINGS[:few])
                self.refused(PEOPLE[:few], THINGS[:many])
        self.refused(PEOPLE + ["gus"], THINGS)
        self.refused(PEOPLE, THINGS + ["door"])

    def test_a_word_twice(self):
        for count in range(2, 7):
            for place in range(1, count):
                self.refused(PEOPLE[:place] + PEOPLE[:1] + PEOPLE[place + 1:count], THINGS[:count])
                self.refused(PEOPLE[:count], THINGS[:place] + THINGS[:1] + THINGS[place + 1:count])

    def test_words_too_short_and_too_long(self):
        self.refused_word("")
        self.refused_word("abcdefghijklm")
        self.refused_word("a" * 200)

    def test_other_signs_in_any_place(self):
        others = [chr(number) for number in range(32, 127) if not 97 <= number <= 122]
        self.assertEqual(len(others), 69)
        for sign in others + ["\n", "\t", "\u00e4", "\u00df", "\u0430"]:
            for word in (sign, sign + "ab", "a" + sign + "b", "ab" + sign):
                self.refused([word], ["lamp"])
                self.refused(["ada"], [word])
        for sign in " AZ`{09-_,":
            for word in (sign, sign + "ab", "a" + sign + "b", "ab" + sign):
                self.refused_word(word)

    def test_every_sign_from_a_to_z(self):
        for number in range(97, 123):
            self.assertEqual(Book([chr(number)], [chr(number)]).lacking(), [chr(number)])

    def test_the_lists_that_were_handed_in_are_not_kept(self):
        people = ["ada", "ben"]
        things = ["lamp", "book"]
        book = Book(people, things)
        self.assertEqual((people, things), (["ada", "ben"], ["lamp", "book"]))
        people.reverse()
        things[0] = "vase"
        book.wish("ada", "lamp book")
        self.assertEqual(book.lacking(), ["ben"])
        people.clear()
        things.clear()
        book.wish("ben", "book lamp")
        self.assertEqual(book.shares("ada", "eaten"), [("lamp", ONE)])
        self.assertEqual(book.deal("eaten", NIL), [("ada", "lamp"), ("ben", "book")])

    def test_two_books_are_each_their_own(self):
        one = Book(PEOPLE[:2], THINGS[:2])
        two = Book(PEOPLE[:2], THINGS[:2])
        one.wish("ada", "lamp book")
        self.assertEqual(two.lacking(), ["ada", "ben"])
        two.wish("ada", "book lamp")
        two.wish("ben", "lamp book")
        self.assertEqual(one.lacking(), ["ben"])
        one.wish("ben", "book lamp")
        self.assertEqual(one.shares("ada", "turns"), [("lamp", ONE)])
        self.assertEqual(two.shares("ada", "turns"), [("book", ONE)])


class Wish(unittest.TestCase):
    def test_told_wishes(self):
        book = Book(PEOPLE[:2], THINGS[:2])
        self.assertIsNone(book.wish("ben", "book lamp"))
        self.assertIsNone(book.wish(person="ada", text="book lamp"))
        self.assertEqual(book.shares("ada", "eaten"), [("book", HALF), ("lamp", HALF)])

    def test_wishes_told_again_take_the_place(self):
        book = Book(PEOPLE[:2], THINGS[:2])
        book.wish("ada", "lamp book")
        book.wish("ben", "lamp book")
        book.wish("ada", "book lamp")
        self.assertEqual(book.lacking(), [])
        self.assertEqual(book.shares("ada", "eaten"), [("book", ONE)])
        self.assertEqual(book.shares("ben", "eaten"), [("lamp", ONE)])
        book.wish("ben", "book lamp")
        self.assertEqual(book.shares("ben", "turns"), [("book", HALF), ("lamp", HALF)])
        book.wish("ada", "lamp book")
        self.assertEqual(book.deal("turns", NIL), [("ada", "lamp"), ("ben", "book")])

    def test_nobody_called_so(self):
        book = three()
        before = book.shares("ada", "eaten")
        for person in ("dora", "", "a", "ad", "adab", "Ada", "ada ", " ada", "lamp", "ada ben", "ada,ben"):
            for text in ("chair book lamp", "", "lamp", "lamp,book,chair"):
                with self.subTest(person=person, text=text), self.assertRaises(NoPerson):
                    book.wish(person, text)
        self.assertEqual(book.shares("ada", "eaten"), before)

    def test_what_is_no_wishes(self):
        wrong = ("", " ", "lamp", "lamp book", "book chair", "lamp lamp book", "lamp book book", "lamp lamp lamp",
                 "lamp book chair chair", "lamp book chair lamp", "lamp book vase", "vase book chair",
                 "lamp book chair vase", "vase lamp book chair", "lamp  book chair", "lamp book  chair",
                 " lamp book chair", "lamp book chair ", "  lamp book chair", "lamp book chair  ",
                 " lamp book chair ", "lamp, book, chair", "lamp,book,chair", "lamp book chair,", "lamp book, chair",
                 "lampbook chair", "lampbookchair", "Lamp book chair", "LAMP BOOK CHAIR", "lamp book chai",
                 "lamp book chairs", "amp book chair", "lamp-book-chair", "lamp\tbook\tchair", "lamp\nbook chair",
                 "lamp book chair\n", "ada ben cleo", "0 1 2", "lamp book chair " * 3, "a" * 200, " " * 200)
        fresh = Book(PEOPLE[:3], THINGS[:3])
        book = three()
        before = [book.shares(person, "eaten") for person in PEOPLE[:3]]
        for text in wrong:
            for person in PEOPLE[:3]:
                with self.subTest(person=person, text=text), self.assertRaises(NoWishes):
                    book.wish(person, text)
                with self.assertRaises(NoWishes):
                    fresh.wish(person, text)
        self.assertEqual(fresh.lacking(), PEOPLE[:3])
        self.assertEqual([book.shares(person, "eaten") for person in PEOPLE[:3]], before)

    def test_one_thing(self):
        book = Book(["ada"], ["lamp"])
        for text in ("", " ", "lamp ", " lamp", "lamp lamp", "lamp,", "ada"):
            with self.subTest(text), self.assertRaises(NoWishes):
                book.wish("ada", text)
        self.assertEqual(book.lacking(), ["ada"])
        book.wish("ada", "lamp")
        self.assertEqual(book.lacking(), [])

    def test_every_order_of_six(self):
        book = book_of([tuple(range(6))] * 6)
        for wish in permutations(range(6)):
            book.wish("cleo", text_of(wish))
        # The others take from the lamp on, so nobody comes to the drum ahead of the last one.
        self.assertEqual(book.shares("cleo", "turns"), [("drum", ONE)])


class Lacking(unittest.TestCase):
    def test_in_the_peoples_order(self):
        book = Book(["fred", "ada", "emil", "ben"], THINGS[:4])
        self.assertEqual(book.lacking(), ["fred", "ada", "emil", "ben"])
        for person, left in (("emil", ["fred", "ada", "ben"]), ("fred", ["ada", "ben"]), ("fred", ["ada", "ben"]),
                             ("ben", ["ada"]), ("ada", [])):
            book.wish(person, text_of((3, 1, 0, 2)))
            self.assertEqual(book.lacking(), left)

    def test_a_new_list_each_time(self):
        book = Book(PEOPLE[:3], THINGS[:3])
        one = book.lacking()
        two = book.lacking()
        self.assertIs(type(one), list)
        one.clear()
        self.assertEqual(two, PEOPLE[:3])
        self.assertEqual(book.lacking(), PEOPLE[:3])
        book.wish("ben", "lamp book chair")
        self.assertEqual(two, PEOPLE[:3])
        two.append("ben")
        self.assertEqual(book.lacking(), ["ada", "cleo"])


class Shares(unittest.TestCase):
    def test_by_hand(self):
        book = three()
        self.assertEqual(book.shares("ada", "eaten"), [("lamp", HALF), ("book", (1, 4)), ("chair", (1, 4))])
        self.assertEqual(book.shares("ben", "eaten"), [("lamp", HALF), ("chair", HALF)])
        self.assertEqual(book.shares("cleo", "eaten"), [("book", (3, 4)), ("chair", (1, 4))])
        self.assertEqual(book.shares("ada", "turns"), [("lamp", HALF), ("book", (1, 6)), ("chair", (1, 3))])
        self.assertEqual(book.shares("ben", "turns"), [("lamp", HALF), ("chair", HALF)])
        self.assertEqual(book.shares("cleo", "turns"), [("book", (5, 6)), ("chair", (1, 6))])
        self.assertEqual(book.shares(person="ada", way="eaten"), book.shares("ada", "eaten"))

    def test_one_person(self):
        book = book_of([(0,)])
        for way in TABLES:
            self.assertEqual(book.shares("ada", way), [("lamp", ONE)])

    def test_many_wishes(self):
        for wishes in many_wishes()[::4]:
            book = book_of(wishes)
            for way, make in TABLES.items():
                for person, row in enumerate(make(wishes)):
                    right = [(THINGS[thing], row[thing]) for thing in wishes[person] if row[thing] != NIL]
                    self.assertEqual(book.shares(PEOPLE[person], way), right)

    def test_the_order_is_that_of_the_wishes_told_last(self):
        book = book_of([(0, 1, 2)] * 3)
        for wish in permutations(range(3)):
            for person in ("cleo", "ada", "ben"):
                book.wish(person, text_of(wish))
            self.assertEqual(book.shares("ben", "eaten"), [(THINGS[thing], (1, 3)) for thing in wish])

    def test_the_refusals_in_their_order(self):
        fresh = Book(PEOPLE[:2], THINGS[:2])
        half = Book(PEOPLE[:2], THINGS[:2])
        half.wish("ada", "lamp book")
        for book in (fresh, half):
            for way in ("eaten", "turns", "lots", ""):
                for person in ("cleo", "", "lamp", "Ada", "ada "):
                    with self.assertRaises(NoPerson):
                        book.shares(person, way)
                for person in ("ada", "ben"):
                    with self.assertRaises(Unready):
                        book.shares(person, way)
        half.wish("ben", "lamp book")
        for way in ("lots", "", "Eaten", "eaten ", " turns", "turn", "eat", "eaten turns", "EATEN", "turnss", "~"):
            with self.assertRaises(NoPerson):
                half.shares("cleo", way)
            with self.subTest(way), self.assertRaises(NoWay):
                half.shares("ada", way)
        self.assertEqual(half.shares("ada", "turns"), [("lamp", HALF), ("book", HALF)])

    def test_a_new_list_each_time(self):
        book = three()
        for way in TABLES:
            one = book.shares("ada", way)
            two = book.shares("ada", way)
            right = list(two)
            self.assertIs(type(one), list)
            self.assertTrue(all(type(pair) is tuple for pair in one))
            one.clear()
            self.assertEqual(two, right)
            self.assertEqual(book.shares("ada", way), right)
        book.wish("ada", "chair book lamp")
        self.assertEqual(two, right)


class Deal(unittest.TestCase):
    def test_by_hand(self):
        book = book_of([(0, 1), (0, 1)])
        for way in TABLES:
            one = book.deal(way, NIL)
            two = book.deal(way, HALF)
            self.assertEqual(sorted([one, two]),
                             [[("ada", "book"), ("ben", "lamp")], [("ada", "lamp"), ("ben", "book")]])
            self.assertEqual(book.deal(way, ((FORTY - 1) // 2, FORTY)), one)
            self.assertEqual(book.deal(way, (FORTY - 1, FORTY)), two)
            self.assertEqual(book.deal(way=way, number=NIL), one)

    def test_the_peoples_order(self):
        book = Book(["zoe", "ada", "mia"], ["vase", "bell", "lamp"])
        book.wish("mia", "vase bell lamp")
        book.wish("ada", "bell lamp vase")
        book.wish("zoe", "lamp vase bell")
        for way in TABLES:
            self.assertEqual(book.deal(way, (2, 3)), [("zoe", "lamp"), ("ada", "bell"), ("mia", "vase")])

    def test_of_the_lots_of_that_way(self):
        unlike = 0
        small = Fraction(1, FORTY)
        for wishes in many_wishes()[::9]:
            book = book_of(wishes)
            told_deals = []
            for way, make in TABLES.items():
                lots = lots_of(make(wishes))
                border = worth(lots[0][0])
                for number in (Fraction(0), border - small, border, Fraction(1, 2), Fraction(6, 7), 1 - small):
                    if number < 1:
                        deal = picked(lots, told(number))
                        right = [(PEOPLE[person], THINGS[thing]) for person, thing in enumerate(deal)]
                        self.assertEqual(book.deal(way, told(number)), right)
                        told_deals.append((number, right))
            unlike += len(told_deals) == 12 and told_deals[:6] != told_deals[6:]
        self.assertGreater(unlike, 10)

    def test_a_whole_round_of_picks_comes_to_the_shares(self):
        book = three()
        for way in TABLES:
            deals = [dict(book.deal(way, told(Fraction(number, 12)))) for number in range(12)]
            for person in PEOPLE[:3]:
                for word, share in book.shares(person, way):
                    self.assertEqual(sum(deal[person] == word for deal in deals), worth(share) * 12)

    def test_the_refusals_in_their_order(self):
        fresh = Book(PEOPLE[:2], THINGS[:2])
        half = Book(PEOPLE[:2], THINGS[:2])
        half.wish("ben", "lamp book")
        wrong = (ONE, (3, 2), (2, 1), (-1, 2), (-1, FORTY), (FORTY + 1, FORTY))
        for book in (fresh, half):
            for way in ("eaten", "turns", "lots", ""):
                for number in wrong + (NIL, HALF):
                    with self.assertRaises(Unready):
                        book.deal(way, number)
        half.wish("ada", "lamp book")
        for way in ("lots", "", "Eaten", "turns ", " eaten", "turn", "eaten turns"):
            for number in wrong + (NIL, HALF):
                with self.subTest(way=way, number=number), self.assertRaises(NoWay):
                    half.deal(way, number)
        for way in TABLES:
            right = half.deal(way, NIL)
            for number in wrong:
                with self.subTest(way=way, number=number), self.assertRaises(NoPick):
                    half.deal(way, number)
            self.assertEqual(half.deal(way, NIL), right)

    def test_a_new_list_each_time(self):
        book = three()
        for way in TABLES:
            one = book.deal(way, NIL)
            two = book.deal(way, NIL)
            right = list(two)
            self.assertIs(type(one), list)
            self.assertTrue(all(type(pair) is tuple for pair in one))
            one.clear()
            self.assertEqual(two, right)
            self.assertEqual(book.deal(way, NIL), right)
        book.wish("ada", "chair book lamp")
        self.assertEqual(two, right)
