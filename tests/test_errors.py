import unittest

from wishlots import errors
from wishlots.book import Book
from wishlots.fractions import fraction
from wishlots.lots import picked
from wishlots.tables import table_of, wishes_of
from wishlots.turns import deal_by

NAMES = ("NoFraction", "NoWishes", "NoTable", "NoPick", "NoOrder", "NoRoll", "NoPerson", "Unready", "NoWay")


class Classes(unittest.TestCase):
    def test_wish_error_is_a_value_error(self):
        self.assertEqual(errors.WishError.__bases__, (ValueError,))

    def test_each_stands_straight_under_wish_error(self):
        for name in NAMES:
            with self.subTest(name):
                self.assertEqual(getattr(errors, name).__bases__, (errors.WishError,))
                self.assertEqual(getattr(errors, name).__name__, name)

    def test_they_are_unlike_classes(self):
        self.assertEqual(len({getattr(errors, name) for name in NAMES}), len(NAMES))

    def test_each_can_be_raised_with_words(self):
        for name in NAMES:
            with self.subTest(name):
                with self.assertRaises(errors.WishError):
                    raise getattr(errors, name)("words")


class Refusals(unittest.TestCase):
    def refused(self, name, call, *values):
        with self.assertRaises(ValueError) as caught:
            call(*values)
        self.assertIsInstance(caught.exception, errors.WishError)
        for other in NAMES:
            self.assertEqual(isinstance(caught.exception, getattr(errors, other)), other == name, other)

    def test_each_is_of_its_own_class_alone(self):
        self.refused("NoFraction", fraction, 1, 0)
        self.refused("NoWishes", wishes_of, [])
        self.refused("NoWishes", wishes_of, [[0, 0], [0, 1]])
        self.refused("NoTable", table_of, [])
        self.refused("NoTable", table_of, [[(0, 1)]])
        self.refused("NoTable", table_of, [[(1, 1), (0, 1)], [(1, 1), (0, 1)]])
        self.refused("NoPick", picked, [((1, 1), (0,))], (1, 1))
        self.refused("NoPick", picked, [((1, 1), (0,))], (-1, 2))
        self.refused("NoOrder", deal_by, [(0, 1), (0, 1)], [0, 0])
        self.refused("NoOrder", deal_by, [(0, 1), (0, 1)], (0,))

    def test_those_of_the_book(self):
        self.refused("NoRoll", Book, [], [])
        self.refused("NoRoll", Book, ["ada"], ["a lamp"])
        book = Book(["ada"], ["lamp"])
        self.refused("NoPerson", book.wish, "ben", "lamp")
        self.refused("NoPerson", book.wish, "ben", "vase")
        self.refused("NoWishes", book.wish, "ada", "vase")
        self.refused("NoPerson", book.shares, "ben", "never")
        self.refused("Unready", book.shares, "ada", "never")
        self.refused("Unready", book.deal, "never", (1, 1))
        book.wish("ada", "lamp")
        self.refused("NoPerson", book.shares, "ben", "never")
        self.refused("NoWay", book.shares, "ada", "never")
        self.refused("NoWay", book.deal, "never", (1, 1))
        self.refused("NoPick", book.deal, "eaten", (1, 1))
        self.refused("NoPick", book.deal, "turns", (-1, 1))
