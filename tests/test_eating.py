import copy
import unittest

from tests.samples import many_wishes, worth
from wishlots.eating import eaten, stops
from wishlots.tables import prefixes, table_of

NIL = (0, 1)
ONE = (1, 1)
HALF = (1, 2)
THIRD = (1, 3)
FIFTH = (1, 5)


class ByHand(unittest.TestCase):
    def assert_meal(self, wishes, table, told):
        self.assertEqual(eaten(wishes), table)
        self.assertEqual(stops(wishes), told)

    def test_one_person(self):
        self.assert_meal([(0,)], [(ONE,)], [(ONE, (0,))])

    def test_two_people(self):
        self.assert_meal([(0, 1), (1, 0)], [(ONE, NIL), (NIL, ONE)], [(ONE, (0, 1))])
        self.assert_meal([(1, 0), (0, 1)], [(NIL, ONE), (ONE, NIL)], [(ONE, (0, 1))])
        self.assert_meal([(0, 1), (0, 1)], [(HALF, HALF)] * 2, [(HALF, (0,)), (ONE, (1,))])
        self.assert_meal([(1, 0), (1, 0)], [(HALF, HALF)] * 2, [(HALF, (1,)), (ONE, (0,))])

    def test_people_who_wish_alike(self):
        self.assert_meal([(2, 0, 1)] * 3, [(THIRD, THIRD, THIRD)] * 3,
                         [(THIRD, (2,)), ((2, 3), (0,)), (ONE, (1,))])
        self.assert_meal([(5, 4, 3, 2, 1, 0)] * 6, [((1, 6),) * 6] * 6,
                         [((1, 6), (5,)), (THIRD, (4,)), (HALF, (3,)), ((2, 3), (2,)), ((5, 6), (1,)), (ONE, (0,))])

    def test_people_who_all_wish_otherwise(self):
        self.assert_meal([(1, 2, 0), (2, 0, 1), (0, 1, 2)],
                         [(NIL, ONE, NIL), (NIL, NIL, ONE), (ONE, NIL, NIL)],
                         [(ONE, (0, 1, 2))])
        self.assert_meal([tuple((person + place) % 6 for place in range(6)) for person in range(6)],
                         [tuple(ONE if thing == person else NIL for thing in range(6)) for person in range(6)],
                         [(ONE, (0, 1, 2, 3, 4, 5))])

    def test_three_who_meet_in_part(self):
        self.assert_meal([(0, 1, 2), (0, 2, 1), (1, 0, 2)],
                         [(HALF, (1, 4), (1, 4)), (HALF, NIL, HALF), (NIL, (3, 4), (1, 4))],
                         [(HALF, (0,)), ((3, 4), (1,)), (ONE, (2,))])

    def test_several_things_that_run_out_at_once(self):
        self.assert_meal([(0, 1, 2, 3), (0, 1, 2, 3), (1, 0, 3, 2), (1, 0, 3, 2)],
                         [(HALF, NIL, HALF, NIL)] * 2 + [(NIL, HALF, NIL, HALF)] * 2,
                         [(HALF, (0, 1)), (ONE, (2, 3))])
        self.assert_meal([(3, 2, 1, 0), (3, 2, 1, 0), (2, 3, 0, 1), (2, 3, 0, 1)],
                         [(NIL, HALF, NIL, HALF)] * 2 + [(HALF, NIL, HALF, NIL)] * 2,
                         [(HALF, (2, 3)), (ONE, (0, 1))])

    def test_things_that_run_out_at_once_though_they_were_begun_apart(self):
        # Four eat 4 up in a quarter and then 1 in another; two eat 3 up in a half.
        four = ((1, 6), (1, 4), (1, 6), NIL, (1, 4), (1, 6))
        two = ((1, 6), NIL, (1, 6), HALF, NIL, (1, 6))
        self.assert_meal([(4, 1, 3, 0, 2, 5)] * 4 + [(3, 4, 1, 0, 2, 5)] * 2,
                         [four] * 4 + [two] * 2,
                         [((1, 4), (4,)), (HALF, (1, 3)), ((2, 3), (0,)), ((5, 6), (2,)), (ONE, (5,))])

    def test_four_who_meet_in_part(self):
        # From a half on two eat from 1, of which one has eaten till then, and one from 2; 1 is gone
        # at three quarters, and what is left of 2 and of 3 is eaten by two people each.
        self.assert_meal([(0, 1, 2, 3), (0, 2, 1, 3), (1, 3, 0, 2), (3, 2, 1, 0)],
                         [(HALF, (1, 4), (1, 4), NIL), (HALF, NIL, HALF, NIL),
                          (NIL, (3, 4), (1, 8), (1, 8)), (NIL, NIL, (1, 8), (7, 8))],
                         [(HALF, (0,)), ((3, 4), (1,)), ((7, 8), (3,)), (ONE, (2,))])

    def test_six_people(self):
        # 0 is gone at a third; then five eat the last third of 1 in a fifteenth.
        three = (THIRD, (1, 15), FIFTH, FIFTH, FIFTH, NIL)
        two = (NIL, (2, 5), FIFTH, FIFTH, FIFTH, NIL)
        self.assert_meal([(0, 1, 2, 3, 4, 5)] * 3 + [(1, 0, 2, 3, 4, 5)] * 2 + [(5, 4, 3, 2, 1, 0)],
                         [three] * 3 + [two] * 2 + [(NIL, NIL, NIL, NIL, NIL, ONE)],
                         [(THIRD, (0,)), ((2, 5), (1,)), ((3, 5), (2,)), ((4, 5), (3,)), (ONE, (4, 5))])

    def test_by_name(self):
        self.assertEqual(eaten(wishes=[(0,)]), [(ONE,)])
        self.assertEqual(stops(wishes=[(0,)]), [(ONE, (0,))])


class OfManyWishes(unittest.TestCase):
    def test_the_table_is_one(self):
        for wishes in many_wishes():
            table = eaten(wishes)
            self.assertIs(type(table), list)
            self.assertTrue(all(type(row) is tuple for row in table))
            self.assertEqual(len(table), len(wishes))
            self.assertEqual(table_of(table), table)
            for shares in table + list(zip(*table)):
                self.assertEqual(sum(worth(share) for share in shares), 1)

    def test_the_times_and_the_things_rise(self):
        for wishes in many_wishes():
            told = stops(wishes)
            self.assertIs(type(told), list)
            self.assertTrue(all(type(stop) is tuple and type(stop[1]) is tuple for stop in told))
            moments = [worth(moment) for moment, things in told]
            self.assertEqual(moments, sorted(set(moments)))
            self.assertGreater(moments[0], 0)
            self.assertEqual(told[-1][0], ONE)
            for moment, things in told:
                self.assertEqual(moment, (worth(moment).numerator, worth(moment).denominator))
                self.assertGreater(len(things), 0)
                self.assertEqual(list(things), sorted(things))
            self.assertEqual(sorted(sum([list(things) for moment, things in told], [])), list(range(len(wishes))))

    def test_each_eats_the_best_that_is_left(self):
        # All eat alike fast, so a prefix is the moment at which a person leaves off with all things
        # up to that place: the moment at which the last of them is gone.
        for wishes in many_wishes():
            gone_at = {thing: worth(moment) for moment, things in stops(wishes) for thing in things}
            for wish, shares in zip(wishes, eaten(wishes)):
                for place, prefix in enumerate(prefixes(wish, shares)):
                    self.assertEqual(worth(prefix), max(gone_at[thing] for thing in wish[:place + 1]))

    def test_nobody_would_rather_have_another_ones_shares(self):
        for wishes in many_wishes():
            table = eaten(wishes)
            for person, wish in enumerate(wishes):
                own = [worth(prefix) for prefix in prefixes(wish, table[person])]
                for shares in table:
                    others = [worth(prefix) for prefix in prefixes(wish, shares)]
                    self.assertTrue(all(mine >= theirs for mine, theirs in zip(own, others)))


class NothingIsShared(unittest.TestCase):
    def test_what_is_handed_in_stays_and_what_is_told_is_the_askers_own(self):
        for call in (eaten, stops):
            wishes = [(0, 1, 2), (0, 2, 1), (1, 0, 2)]
            kept = copy.deepcopy(wishes)
            told = call(wishes)
            self.assertEqual(wishes, kept)
            right = copy.deepcopy(told)
            again = call(wishes)
            wishes.reverse()
            wishes.pop()
            self.assertEqual(told, right)
            told.clear()
            self.assertEqual(again, right)
            self.assertEqual(call(kept), right)
