import copy
import unittest
from fractions import Fraction
from itertools import permutations

from tests.samples import FORTY, Stream, all_wishes, many_wishes, mixed_wishes, told, worth
from wishlots.errors import NoOrder
from wishlots.tables import prefixes, table_of
from wishlots.turns import by_turns, deal_by

NIL = (0, 1)
ONE = (1, 1)
HALF = (1, 2)


def taken_in(wishes, order):
    left = list(range(len(wishes)))
    deal = {}
    for person in order:
        deal[person] = min(left, key=wishes[person].index)
        left.remove(deal[person])
    return tuple(deal[person] for person in range(len(wishes)))


def counted(wishes):
    orders = list(permutations(range(len(wishes))))
    counts = [[0 for thing in wishes] for person in wishes]
    for order in orders:
        for person, thing in enumerate(taken_in(wishes, order)):
            counts[person][thing] += 1
    return [tuple(told(Fraction(number, len(orders))) for number in row) for row in counts]


class DealBy(unittest.TestCase):
    def refused(self, wishes, order):
        for given in (list(order), tuple(order)):
            kept = copy.deepcopy((wishes, given))
            with self.subTest(order=given), self.assertRaises(NoOrder):
                deal_by(wishes, given)
            self.assertEqual((wishes, given), kept)

    def test_by_hand(self):
        self.assertEqual(deal_by([(0,)], [0]), (0,))
        self.assertEqual(deal_by([(0, 1), (0, 1)], [0, 1]), (0, 1))
        self.assertEqual(deal_by([(0, 1), (0, 1)], [1, 0]), (1, 0))
        self.assertEqual(deal_by([(1, 0), (0, 1)], [1, 0]), (1, 0))
        wishes = [(2, 0, 1), (2, 1, 0), (1, 2, 0)]
        self.assertEqual(deal_by(wishes, [0, 1, 2]), (2, 1, 0))
        self.assertEqual(deal_by(wishes, [1, 2, 0]), (0, 2, 1))
        self.assertEqual(deal_by(wishes, [2, 0, 1]), (2, 0, 1))

    def test_lists_and_tuples(self):
        for wishes in many_wishes()[::6]:
            for order in list(permutations(range(len(wishes))))[::11]:
                deal = deal_by(wishes, order)
                self.assertIs(type(deal), tuple)
                self.assertEqual(deal, taken_in(wishes, order))
                self.assertEqual(deal_by(wishes, list(order)), deal)

    def test_all_orders_of_six(self):
        for wishes in mixed_wishes(6, 3):
            for order in permutations(range(6)):
                self.assertEqual(deal_by(wishes, order), taken_in(wishes, order))

    def test_somebody_left_out(self):
        self.refused([(0,)], [])
        self.refused([(0, 1)] * 2, [0])
        self.refused([(0, 1)] * 2, [1])
        for person in range(6):
            self.refused([tuple(range(6))] * 6, [other for other in range(6) if other != person])

    def test_somebody_twice(self):
        self.refused([(0,)], [0, 0])
        self.refused([(0, 1)] * 2, [0, 0])
        self.refused([(0, 1)] * 2, [1, 1])
        self.refused([(0, 1, 2)] * 3, [0, 1, 0])
        self.refused([(0, 1, 2)] * 3, [2, 1, 2])

    def test_one_too_many(self):
        self.refused([(0,)], [0, 1])
        self.refused([(0, 1)] * 2, [0, 1, 0])
        self.refused([(0, 1)] * 2, [0, 1, 2])
        self.refused([tuple(range(6))] * 6, [0, 1, 2, 3, 4, 5, 5])
        self.refused([tuple(range(6))] * 6, range(7))

    def test_a_number_below_nothing_or_too_great(self):
        self.refused([(0,)], [-1])
        self.refused([(0,)], [1])
        self.refused([(0, 1)] * 2, [0, -1])
        self.refused([(0, 1)] * 2, [-2, 1])
        self.refused([(0, 1)] * 2, [0, 2])
        self.refused([(0, 1)] * 2, [1, 2])
        self.refused([(0, 1)] * 2, [0, FORTY])
        self.refused([(0, 1)] * 2, [-FORTY, 1])

    def test_a_truth_is_no_person(self):
        self.refused([(0,)], [False])
        self.refused([(0, 1)] * 2, [0, True])

    def test_by_name(self):
        self.assertEqual(deal_by(wishes=[(0,)], order=[0]), (0,))

    def test_nothing_is_changed(self):
        wishes = [(2, 0, 1), (2, 1, 0), (1, 2, 0)]
        order = [2, 0, 1]
        deal = deal_by(wishes, order)
        self.assertEqual(wishes, [(2, 0, 1), (2, 1, 0), (1, 2, 0)])
        self.assertEqual(order, [2, 0, 1])
        order.reverse()
        wishes.clear()
        self.assertEqual(deal, (2, 0, 1))


class ByTurns(unittest.TestCase):
    def test_by_hand(self):
        self.assertEqual(by_turns([(0,)]), [(ONE,)])
        self.assertEqual(by_turns([(0, 1), (1, 0)]), [(ONE, NIL), (NIL, ONE)])
        self.assertEqual(by_turns([(0, 1), (0, 1)]), [(HALF, HALF)] * 2)
        self.assertEqual(by_turns([(0, 1, 2), (0, 2, 1), (1, 0, 2)]),
                         [(HALF, (1, 6), (1, 3)), (HALF, NIL, HALF), (NIL, (5, 6), (1, 6))])

    def test_two_pairs_who_wish_alike(self):
        one = ((5, 12), (1, 12), (1, 4), (1, 4))
        two = ((1, 12), (5, 12), (1, 4), (1, 4))
        self.assertEqual(by_turns([(0, 1, 2, 3)] * 2 + [(1, 0, 2, 3)] * 2), [one] * 2 + [two] * 2)

    def test_people_who_wish_alike(self):
        for count in range(1, 7):
            for wish in list(permutations(range(count)))[::37]:
                self.assertEqual(by_turns([wish] * count), [((1, count),) * count] * count)

    def test_all_orders_are_counted(self):
        for wishes in many_wishes()[::2] + all_wishes(3):
            table = by_turns(wishes)
            self.assertEqual(table, counted(wishes))
            self.assertIs(type(table), list)
            self.assertTrue(all(type(row) is tuple for row in table))
            self.assertEqual(table_of(table), table)

    def test_those_who_wish_alike_have_alike(self):
        for wishes in many_wishes():
            table = by_turns(wishes)
            for wish, shares in zip(wishes, table):
                self.assertEqual(shares, table[wishes.index(wish)])

    def test_by_name(self):
        self.assertEqual(by_turns(wishes=[(0,)]), [(ONE,)])

    def test_nothing_is_shared(self):
        wishes = [(0, 1, 2), (0, 2, 1), (1, 0, 2)]
        kept = copy.deepcopy(wishes)
        table = by_turns(wishes)
        self.assertEqual(wishes, kept)
        right = copy.deepcopy(table)
        again = by_turns(wishes)
        wishes.reverse()
        self.assertEqual(table, right)
        table.clear()
        self.assertEqual(again, right)
        self.assertEqual(by_turns(kept), right)


class OtherWishes(unittest.TestCase):
    def assert_no_gain(self, wishes, person, other):
        own = wishes[person]
        truly = prefixes(own, by_turns(wishes)[person])
        turned = prefixes(own, by_turns(wishes[:person] + [other] + wishes[person + 1:])[person])
        for mine, gained in zip(truly, turned):
            self.assertLessEqual(worth(gained), worth(mine), (wishes, person, other))

    def test_up_to_three_people_and_all_other_wishes(self):
        for wishes in all_wishes(1) + all_wishes(2) + all_wishes(3):
            for person in range(len(wishes)):
                for other in permutations(range(len(wishes))):
                    self.assert_no_gain(wishes, person, other)

    def test_four_to_six_people(self):
        stream = Stream(17)
        for count in (4, 5, 6):
            for wishes in mixed_wishes(count, 60):
                for turn in range(8):
                    self.assert_no_gain(wishes, stream.below(count), stream.row(count))
