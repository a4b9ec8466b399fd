import copy
import unittest
from fractions import Fraction
from itertools import permutations

from tests.samples import FORTY, Stream, many_tables, many_wishes, table_from, told, weights_of, worth
from wishlots.eating import eaten
from wishlots.errors import NoPick
from wishlots.lots import lots_of, picked
from wishlots.turns import by_turns

NIL = (0, 1)
ONE = (1, 1)
HALF = (1, 2)
THIRD = (1, 3)


def even_table(count):
    return [((1, count),) * count for person in range(count)]


class LotsOf(unittest.TestCase):
    def assert_lots(self, table):
        lots = lots_of(table)
        count = len(table)
        self.assertIs(type(lots), list)
        for lot in lots:
            self.assertIs(type(lot), tuple)
            weight, deal = lot
            self.assertIs(type(weight), tuple)
            self.assertEqual(weight, told(worth(weight)))
            self.assertGreater(worth(weight), 0)
            self.assertIs(type(deal), tuple)
            self.assertEqual(sorted(deal), list(range(count)))
        deals = [deal for weight, deal in lots]
        self.assertEqual(len(set(deals)), len(deals))
        self.assertEqual(sum(worth(weight) for weight, deal in lots), 1)
        self.assertEqual(table_from([worth(weight) for weight, deal in lots], deals), table)
        shares = sum(share != NIL for row in table for share in row)
        self.assertLessEqual(len(lots), shares - count + 1)
        self.assertEqual(lots_of(table), lots)
        self.assertEqual(lots_of(copy.deepcopy(table)), lots)

    def test_by_hand(self):
        self.assertEqual(lots_of([(ONE,)]), [(ONE, (0,))])
        self.assertEqual(lots_of([(NIL, ONE), (ONE, NIL)]), [(ONE, (1, 0))])
        self.assertEqual(sorted(lots_of([(HALF, HALF)] * 2)), [(HALF, (0, 1)), (HALF, (1, 0))])
        self.assertEqual(sorted(lots_of([(THIRD, (2, 3)), ((2, 3), THIRD)])), [(THIRD, (0, 1)), ((2, 3), (1, 0))])

    def test_where_the_first_thing_leaves_none_for_the_others(self):
        # Where 0 takes thing 0 and 1 thing 1, person 2, who has shares of these alone, goes without.
        table = [(HALF, NIL, HALF), (NIL, HALF, HALF), (HALF, HALF, NIL)]
        self.assertEqual(sorted(lots_of(table)), [(HALF, (0, 2, 1)), (HALF, (2, 1, 0))])
        self.assert_lots(table)

    def test_whole_deals(self):
        for count in range(1, 7):
            for deal in permutations(range(count)):
                self.assertEqual(lots_of(table_from([Fraction(1)], [deal])), [(ONE, deal)])

    def test_even_shares(self):
        for count in range(2, 7):
            self.assert_lots(even_table(count))
        self.assert_lots([(ONE,)])

    def test_small_and_great_figures(self):
        for wishes, table in many_tables():
            self.assert_lots(table)

    def test_few_shares(self):
        stream = Stream(7)
        for turn in range(200):
            count = 2 + turn % 5
            self.assert_lots(table_from(weights_of(stream, 2, 24), [stream.row(count), stream.row(count)]))

    def test_many_unlike_shares(self):
        stream = Stream(11)
        for turn in range(30):
            count = 4 + turn % 3
            deals = [stream.row(count) for deal in range(25)]
            self.assert_lots(table_from(weights_of(stream, 25, 10 ** 9 + 7), deals))
            self.assert_lots(table_from(weights_of(stream, 25, FORTY), deals))

    def test_unlike_bottoms(self):
        stream = Stream(13)
        for turn in range(10):
            count = 3 + turn % 4
            weights = [Fraction(1, 20 * (1 + stream.below(10 ** 20))) for deal in range(15)]
            weights.append(1 - sum(weights))
            self.assert_lots(table_from(weights, [stream.row(count) for deal in weights]))

    def test_eaten_and_by_turns(self):
        for wishes in many_wishes()[::3]:
            self.assert_lots(eaten(wishes))
            self.assert_lots(by_turns(wishes))

    def test_by_name(self):
        self.assertEqual(lots_of(table=[(ONE,)]), [(ONE, (0,))])

    def test_nothing_is_shared(self):
        table = [(THIRD, (2, 3)), ((2, 3), THIRD)]
        kept = copy.deepcopy(table)
        lots = lots_of(table)
        self.assertEqual(table, kept)
        right = copy.deepcopy(lots)
        again = lots_of(table)
        table.reverse()
        self.assertEqual(lots, right)
        lots.clear()
        self.assertEqual(again, right)
        self.assertEqual(lots_of(kept), right)


class Picked(unittest.TestCase):
    def test_one_lot(self):
        for number in (NIL, (1, 10 ** 39), HALF, (FORTY - 1, FORTY)):
            self.assertEqual(picked([(ONE, (0,))], number), (0,))

    def test_about_the_borders(self):
        lots = [(HALF, (2, 1, 0)), (THIRD, (0, 1, 2)), ((1, 6), (1, 2, 0))]
        small = Fraction(1, FORTY)
        for number, deal in ((Fraction(0), (2, 1, 0)), (small, (2, 1, 0)), (Fraction(1, 3), (2, 1, 0)),
                             (Fraction(1, 2) - small, (2, 1, 0)), (Fraction(1, 2), (0, 1, 2)),
                             (Fraction(1, 2) + small, (0, 1, 2)), (Fraction(5, 6) - small, (0, 1, 2)),
                             (Fraction(5, 6), (1, 2, 0)), (Fraction(5, 6) + small, (1, 2, 0)),
                             (1 - small, (1, 2, 0))):
            self.assertEqual(picked(lots, told(number)), deal, number)

    def test_the_order_of_the_lots_counts(self):
        lots = [(THIRD, (0, 1)), ((2, 3), (1, 0))]
        self.assertEqual(picked(lots, HALF), (1, 0))
        self.assertEqual(picked(lots, NIL), (0, 1))
        self.assertEqual(picked(lots[::-1], HALF), (1, 0))
        self.assertEqual(picked(lots[::-1], NIL), (1, 0))
        self.assertEqual(picked(lots[::-1], (2, 3)), (0, 1))

    def test_a_fraction_that_is_too_small_or_too_great(self):
        for lots in ([(ONE, (0,))], [(HALF, (0, 1)), (HALF, (1, 0))], lots_of(even_table(6))):
            kept = copy.deepcopy(lots)
            for number in (ONE, (FORTY + 1, FORTY), (3, 2), (2, 1), (FORTY, 1), (-1, FORTY), (-1, 2), (-1, 1),
                           (-FORTY, 1)):
                with self.subTest(number), self.assertRaises(NoPick):
                    picked(lots, number)
            self.assertEqual(lots, kept)

    def test_more_deals_than_lots_of_would_tell(self):
        deals = list(permutations(range(4)))
        lots = [((1, 24), deal) for deal in deals]
        self.assertGreater(len(lots), len(lots_of(even_table(4))))
        for place, deal in enumerate(deals):
            self.assertEqual(picked(lots, told(Fraction(place, 24))), deal)
            self.assertEqual(picked(lots, told(Fraction(2 * place + 1, 48))), deal)
            self.assertEqual(picked(lots, told(Fraction(place + 1, 24) - Fraction(1, FORTY))), deal)
        deals = list(permutations(range(6)))
        lots = [((1, 720), deal) for deal in deals]
        for place in (0, 1, 359, 360, 718, 719):
            self.assertEqual(picked(lots, told(Fraction(place, 720))), deals[place])

    def test_every_lot_of_many_tables(self):
        small = Fraction(1, 10 ** 80)
        for wishes, table in many_tables()[::4]:
            lots = lots_of(table)
            so_far = Fraction(0)
            for weight, deal in lots:
                self.assertEqual(picked(lots, told(so_far)), deal)
                so_far += worth(weight)
                self.assertEqual(picked(lots, told(so_far - small)), deal)

    def test_by_name(self):
        self.assertEqual(picked(lots=[(ONE, (0,))], number=HALF), (0,))

    def test_nothing_is_changed(self):
        lots = [(HALF, (0, 1)), (HALF, (1, 0))]
        deal = picked(lots, HALF)
        self.assertIs(type(deal), tuple)
        self.assertEqual(lots, [(HALF, (0, 1)), (HALF, (1, 0))])
        lots.clear()
        self.assertEqual(deal, (1, 0))
