import copy
import unittest
from fractions import Fraction
from itertools import permutations

from tests.samples import FORTY, many_wishes
from wishlots.errors import NoTable, NoWishes
from wishlots.tables import prefixes, table_of, wishes_of

NIL = (0, 1)
ONE = (1, 1)
HALF = (1, 2)
THIRD = (1, 3)


def even_rows(count):
    return [[(1, count) if count > 1 else ONE for thing in range(count)] for person in range(count)]


def round_rows(shares):
    # Each row is the one above it shifted by one, so that rows and columns have the same sum.
    return [shares[turn:] + shares[:turn] for turn in range(len(shares))]


class Wishes(unittest.TestCase):
    def assert_wishes(self, rows):
        told = wishes_of(rows)
        self.assertIs(type(told), list)
        self.assertTrue(all(type(row) is tuple for row in told))
        self.assertEqual(told, [tuple(row) for row in rows])

    def refused(self, rows):
        kept = copy.deepcopy(rows)
        with self.subTest(rows=rows), self.assertRaises(NoWishes):
            wishes_of(rows)
        self.assertEqual(rows, kept)

    def test_one_to_six_rows(self):
        self.assert_wishes([[0]])
        self.assert_wishes([(0,)])
        self.assert_wishes([[1, 0], (0, 1)])
        for rows in many_wishes():
            self.assert_wishes([list(row) for row in rows])
            self.assert_wishes(rows)

    def test_every_order_of_six(self):
        rest = [tuple(range(6))] * 5
        for row in permutations(range(6)):
            self.assert_wishes([list(row)] + rest)

    def test_by_name(self):
        self.assertEqual(wishes_of(rows=[[0]]), [(0,)])

    def test_what_was_told_may_be_handed_in_again(self):
        told = wishes_of([[1, 0], [0, 1]])
        self.assertEqual(wishes_of(told), told)
        self.assertIsNot(wishes_of(told), told)

    def test_no_rows_and_too_many(self):
        self.refused([])
        self.refused([list(range(7)) for person in range(7)])
        self.refused([list(range(8)) for person in range(8)])

    def test_a_row_more_or_less(self):
        self.refused([[0, 1, 2], [0, 1, 2]])
        self.refused([[0, 1], [0, 1], [0, 1]])
        self.refused([[0], [0]])
        self.refused([[0, 1]])

    def test_a_thing_twice_left_out_or_one_too_many(self):
        for place in range(3):
            rows = [[0, 1, 2], [1, 2, 0], [2, 1, 0]]
            for wrong in ([0, 0, 1], [0, 1, 1], [2, 2, 2], [0, 1], [1, 2], [], [0, 1, 2, 2], [0, 1, 2, 3]):
                self.refused(rows[:place] + [wrong] + rows[place + 1:])
                self.refused(rows[:place] + [tuple(wrong)] + rows[place + 1:])

    def test_a_number_below_nothing_or_beyond_the_things(self):
        self.refused([[-1]])
        self.refused([[1]])
        self.refused([[0, -1], [0, 1]])
        self.refused([[0, 1], [-2, 1]])
        self.refused([[0, 1], [0, 2]])
        self.refused([[1, 2], [1, 2]])
        self.refused([[0, FORTY], [0, 1]])
        self.refused([[0, 1], [-FORTY, 1]])

    def test_a_truth_is_no_number(self):
        self.refused([[False]])
        self.refused([[0, True], [0, 1]])

    def test_other_kinds_are_refused(self):
        self.refused([[0, "1"], [0, 1]])
        self.refused(["01", "10"])
        self.refused([None])
        self.refused([[0.0]])

    def test_nothing_is_shared(self):
        rows = [[0, 1], [1, 0]]
        kept = copy.deepcopy(rows)
        told = wishes_of(rows)
        self.assertEqual(rows, kept)
        rows[0].reverse()
        rows.pop()
        self.assertEqual(told, [(0, 1), (1, 0)])
        again = wishes_of(kept)
        told.clear()
        self.assertEqual(again, [(0, 1), (1, 0)])
        self.assertEqual(wishes_of(kept), [(0, 1), (1, 0)])


class Tables(unittest.TestCase):
    def assert_table(self, rows):
        for given in (rows, [tuple(row) for row in rows]):
            told = table_of(given)
            self.assertIs(type(told), list)
            self.assertTrue(all(type(row) is tuple for row in told))
            self.assertEqual(told, [tuple(row) for row in rows])

    def refused(self, rows):
        kept = copy.deepcopy(rows)
        for given in (rows, [tuple(row) for row in rows]):
            with self.subTest(rows=given), self.assertRaises(NoTable):
                table_of(given)
        self.assertEqual(rows, kept)

    def test_one_to_six_people(self):
        for count in range(1, 7):
            self.assert_table(even_rows(count))
            self.assert_table(round_rows([ONE] + [NIL] * (count - 1)))
        self.assert_table([[HALF, (1, 4), (1, 4)], [HALF, NIL, HALF], [NIL, (3, 4), (1, 4)]])
        self.assert_table(round_rows([HALF, THIRD, (1, 6)]))

    def test_great_figures(self):
        some = (10 ** 39 + 7, FORTY)
        rest = (FORTY - 10 ** 39 - 7, FORTY)
        self.assert_table([[some, rest], [rest, some]])
        wide = [(1, FORTY - 2), (1, FORTY - 1), (1, FORTY), (1, 3 ** 80), (1, 2 ** 130)]
        last = 1 - sum(Fraction(*share) for share in wide)
        self.assert_table(round_rows(wide + [(last.numerator, last.denominator)]))

    def test_by_name(self):
        self.assertEqual(table_of(rows=[[ONE]]), [(ONE,)])

    def test_what_was_told_may_be_handed_in_again(self):
        told = table_of([[HALF, HALF], [HALF, HALF]])
        self.assertEqual(table_of(told), told)
        self.assertIsNot(table_of(told), told)

    def test_no_rows_and_too_many(self):
        self.refused([])
        self.refused(even_rows(7))
        self.refused(round_rows([ONE] + [NIL] * 6))
        self.refused(even_rows(8))

    def test_a_row_too_many_or_too_few(self):
        for count in range(2, 6):
            self.refused(even_rows(count) + even_rows(count)[:1])
            self.refused(even_rows(count)[1:])
        self.refused([[ONE, NIL], [NIL, ONE], [NIL, NIL]])
        self.refused([[ONE], [NIL]])
        self.refused([[ONE, NIL]])

    def test_a_row_of_another_length(self):
        self.refused([[]])
        self.refused([[ONE, NIL], [NIL, ONE, NIL]])
        self.refused([[ONE, NIL, NIL], [NIL, ONE]])
        self.refused([[ONE, NIL, NIL], [NIL, ONE, NIL]])
        self.refused([[ONE, NIL], [ONE]])
        self.refused([[ONE], [NIL, ONE]])

    def test_a_share_below_nothing_or_above_one_though_the_sums_are_right(self):
        self.refused([[(-1, 2), (3, 2)], [(3, 2), (-1, 2)]])
        self.refused([[(2, 1), (-1, 1)], [(-1, 1), (2, 1)]])
        self.refused(round_rows([ONE, ONE, (-1, 1)]))
        self.refused(round_rows([THIRD, ONE, (-1, 3)]))
        self.refused(round_rows([(-1, FORTY), HALF, (FORTY + 2, 2 * FORTY)]))

    def test_a_person_who_has_not_one_whole(self):
        self.refused([[ONE, HALF], [NIL, HALF]])
        self.refused([[NIL, HALF], [ONE, HALF]])
        self.refused([[NIL, NIL], [ONE, ONE]])
        self.refused([[THIRD, THIRD, (2, 3)], [THIRD, THIRD, THIRD], [THIRD, THIRD, NIL]])

    def test_a_thing_that_is_not_dealt_as_one_whole(self):
        self.refused([[ONE, NIL], [ONE, NIL]])
        self.refused([[HALF, HALF], [THIRD, (2, 3)]])
        self.refused([[THIRD, THIRD, THIRD], [THIRD, THIRD, THIRD], [HALF, HALF, NIL]])
        near = [(FORTY - 1, FORTY), (1, FORTY)]
        self.refused([near, [(1, FORTY - 1), (FORTY - 2, FORTY - 1)]])

    def test_neither_comes_to_one(self):
        self.refused([[NIL]])
        self.refused([[HALF]])
        self.refused([[HALF, THIRD], [THIRD, HALF]])
        self.refused([[ONE, ONE], [ONE, ONE]])

    def test_what_is_no_fraction_makes_no_table(self):
        self.refused([[(2, 2)]])
        self.refused([[(2, 4), HALF], [HALF, HALF]])
        self.refused([[(-1, -1)]])
        self.refused([[(1, 0)]])
        self.refused([[(1, 1, 1)]])
        self.refused([[(True, 1)]])
        self.refused([[[1, 1]]])
        self.refused([[1]])

    def test_nothing_is_shared(self):
        rows = [[ONE, NIL], [NIL, ONE]]
        kept = copy.deepcopy(rows)
        told = table_of(rows)
        self.assertEqual(rows, kept)
        rows[0].reverse()
        rows.pop()
        self.assertEqual(told, [(ONE, NIL), (NIL, ONE)])
        again = table_of(kept)
        told.clear()
        self.assertEqual(again, [(ONE, NIL), (NIL, ONE)])
        self.assertEqual(table_of(kept), [(ONE, NIL), (NIL, ONE)])


class Prefixes(unittest.TestCase):
    def test_by_hand(self):
        shares = (HALF, (1, 4), (1, 4))
        self.assertEqual(prefixes((0, 1, 2), shares), (HALF, (3, 4), ONE))
        self.assertEqual(prefixes((2, 1, 0), shares), ((1, 4), HALF, ONE))
        self.assertEqual(prefixes((2, 0, 1), shares), ((1, 4), (3, 4), ONE))
        self.assertEqual(prefixes((1, 0, 2), (THIRD, NIL, (2, 3))), (NIL, THIRD, ONE))

    def test_whole_shares(self):
        self.assertEqual(prefixes((0,), (ONE,)), (ONE,))
        self.assertEqual(prefixes((0, 1), (NIL, ONE)), (NIL, ONE))
        self.assertEqual(prefixes((1, 0), (NIL, ONE)), (ONE, ONE))
        self.assertEqual(prefixes((3, 1, 2, 0), (NIL, NIL, ONE, NIL)), (NIL, NIL, ONE, ONE))

    def test_all_rows_of_six_broken_shares(self):
        shares = ((1, 12), (1, 6), NIL, (1, 4), THIRD, (1, 6))
        for wish in permutations(range(6)):
            told = prefixes(wish, shares)
            self.assertIs(type(told), tuple)
            self.assertEqual(len(told), 6)
            self.assertEqual(told[-1], ONE)
            for place in range(6):
                worth = sum(Fraction(*shares[thing]) for thing in wish[:place + 1])
                self.assertIs(type(told[place]), tuple)
                self.assertEqual(told[place], (worth.numerator, worth.denominator))

    def test_great_figures(self):
        some = (10 ** 39 + 7, FORTY)
        rest = (FORTY - 10 ** 39 - 7, FORTY)
        self.assertEqual(prefixes((1, 0), (some, rest)), (rest, ONE))

    def test_by_name(self):
        self.assertEqual(prefixes(wish=(1, 0), shares=(THIRD, (2, 3))), ((2, 3), ONE))

    def test_shares_of_a_table_and_a_row_of_wishes_stay_as_they_were(self):
        table = table_of([[THIRD, (2, 3)], [(2, 3), THIRD]])
        wishes = wishes_of([[0, 1], [1, 0]])
        self.assertEqual(prefixes(wishes[1], table[0]), ((2, 3), ONE))
        self.assertEqual(table, [(THIRD, (2, 3)), ((2, 3), THIRD)])
        self.assertEqual(wishes, [(0, 1), (1, 0)])
