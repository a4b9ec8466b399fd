import copy
import unittest
from itertools import permutations

from tests.samples import FORTY, many_tables, many_wishes, mixed_tables, worth
from wishlots.eating import eaten
from wishlots.looks import rather, ring_or_order
from wishlots.lots import lots_of
from wishlots.tables import prefixes, table_of
from wishlots.turns import by_turns

NIL = (0, 1)
ONE = (1, 1)
HALF = (1, 2)
THIRD = (1, 3)
QUARTER = (1, 4)


def deal_table(deal):
    return [tuple(ONE if thing == mine else NIL for thing in range(len(deal))) for mine in deal]


def worths(wish, shares):
    return [worth(prefix) for prefix in prefixes(wish, shares)]


class Rather(unittest.TestCase):
    def test_nobody(self):
        self.assertIsNone(rather([(0,)], [(ONE,)]))
        self.assertIsNone(rather([(0, 1), (1, 0)], deal_table((0, 1))))
        self.assertIsNone(rather([(0, 1), (0, 1)], [(HALF, HALF)] * 2))
        self.assertIsNone(rather([(2, 0, 1)] * 3, [(THIRD, THIRD, THIRD)] * 3))

    def test_two_people(self):
        self.assertEqual(rather([(0, 1), (0, 1)], deal_table((1, 0))), (0, 1, 0))
        self.assertEqual(rather([(0, 1), (0, 1)], deal_table((0, 1))), (1, 0, 0))
        self.assertEqual(rather([(0, 1), (1, 0)], deal_table((1, 0))), (0, 1, 0))
        self.assertEqual(rather([(1, 0), (1, 0)], [(THIRD, (2, 3)), ((2, 3), THIRD)]), (1, 0, 0))

    def test_the_person_goes_first(self):
        # Person 1 looks at 2 at place 1, person 2 at 0 at place 0.
        wishes = [(0, 1, 2), (2, 1, 0), (0, 1, 2)]
        table = [((3, 4), QUARTER, NIL), (QUARTER, QUARTER, HALF), (NIL, HALF, HALF)]
        self.assertEqual(rather(wishes, table), (1, 2, 1))
        self.assertEqual(rather([(0, 1, 2)] * 3, deal_table((0, 1, 2))), (1, 0, 0))
        self.assertEqual(rather([(0, 1, 2)] * 3, deal_table((0, 2, 1))), (1, 0, 0))
        self.assertEqual(rather([(0, 1, 2), (1, 2, 0), (0, 2, 1)], deal_table((0, 1, 2))), (2, 0, 0))

    def test_the_other_goes_ahead_of_the_place(self):
        # Person 1 has as much up to place 1 as person 0, and less at place 0.
        table = [(THIRD, THIRD, THIRD), (NIL, (2, 3), THIRD), ((2, 3), NIL, THIRD)]
        self.assertEqual(rather([(0, 1, 2), (1, 2, 0), (0, 2, 1)], table), (0, 2, 0))
        # Person 0 looks at 1 at place 1 alone, and at 2 at place 0 already.
        table = [(THIRD, THIRD, THIRD), (QUARTER, HALF, QUARTER), ((5, 12), (1, 6), (5, 12))]
        self.assertEqual(rather([(0, 1, 2)] * 3, table), (0, 1, 1))
        table = [(THIRD, THIRD, THIRD), ((5, 12), (1, 6), (5, 12)), (QUARTER, HALF, QUARTER)]
        self.assertEqual(rather([(0, 1, 2)] * 3, table), (0, 1, 0))

    def test_the_first_of_several_places(self):
        table = [(NIL, NIL, NIL, ONE), (NIL, HALF, HALF, NIL), (HALF, QUARTER, QUARTER, NIL),
                 (HALF, QUARTER, QUARTER, NIL)]
        self.assertEqual(rather([(0, 1, 2, 3)] * 4, table), (0, 1, 1))
        self.assertEqual(rather([(2, 1, 0, 3)] * 4, table), (0, 1, 0))
        self.assertEqual(rather([(3, 0, 1, 2)] * 4, table), (1, 0, 0))
        self.assertEqual(rather([(3, 2, 1, 0), (1, 2, 0, 3), (0, 1, 2, 3), (0, 2, 3, 1)], table), (3, 0, 2))
        self.assertIsNone(rather([(3, 2, 1, 0), (1, 2, 0, 3), (0, 1, 2, 3), (0, 2, 1, 3)], table))

    def test_a_place_near_the_end_counts_too(self):
        table = [(HALF, NIL, NIL, HALF), (HALF, NIL, HALF, NIL), (NIL, HALF, HALF, NIL), (NIL, HALF, NIL, HALF)]
        self.assertEqual(rather([(0, 1, 2, 3)] * 4, table), (0, 1, 2))

    def test_the_least_difference_counts(self):
        more = ((FORTY + 1) // 2, FORTY)
        less = ((FORTY - 1) // 2, FORTY)
        self.assertEqual(rather([(0, 1), (0, 1)], [(more, less), (less, more)]), (1, 0, 0))
        self.assertEqual(rather([(0, 1), (0, 1)], [(less, more), (more, less)]), (0, 1, 0))
        self.assertIsNone(rather([(0, 1), (1, 0)], [(more, less), (less, more)]))

    def test_many_tables(self):
        found = {}
        for wishes, table in many_tables():
            right = [(person, other, place)
                     for person, wish in enumerate(wishes)
                     for other in range(len(wishes))
                     for place in range(len(wishes))
                     if worths(wish, table[other])[place] > worths(wish, table[person])[place]]
            answer = rather(wishes, table)
            self.assertEqual(answer, right[0] if right else None)
            self.assertIn(type(answer), (tuple, type(None)))
            found[answer] = True
        self.assertIn(None, found)
        self.assertGreater(len(found), 20)

    def test_nobody_at_the_eaten_table(self):
        for wishes in many_wishes():
            self.assertIsNone(rather(wishes, eaten(wishes)))

    def test_by_name(self):
        self.assertIsNone(rather(wishes=[(0,)], table=[(ONE,)]))


class Looks(unittest.TestCase):
    def assert_order(self, wishes, table, order):
        self.assertIs(type(order), list)
        self.assertEqual(sorted(order), list(range(len(wishes))))
        for person, wish in enumerate(wishes):
            for place, thing in enumerate(wish):
                if worth(table[person][thing]) > 0:
                    for better in wish[:place]:
                        self.assertLess(order.index(better), order.index(thing))

    def assert_ring(self, wishes, table, ring):
        self.assertIs(type(ring), list)
        self.assertGreaterEqual(len(ring), 2)
        self.assertEqual(len({person for person, given, taken in ring}), len(ring))
        for place, (person, given, taken) in enumerate(ring):
            self.assertIs(type(ring[place]), tuple)
            self.assertIn(person, range(len(wishes)))
            self.assertGreater(worth(table[person][given]), 0)
            self.assertLess(wishes[person].index(taken), wishes[person].index(given))
            self.assertEqual(ring[(place + 1) % len(ring)][2], given)

    def assert_behind(self, table, ring, behind):
        step = min(worth(table[person][given]) for person, given, taken in ring)
        right = [[worth(share) for share in row] for row in table]
        for person, given, taken in ring:
            right[person][given] -= step
            right[person][taken] += step
        self.assertEqual([[worth(share) for share in row] for row in behind], right)
        self.assertIs(type(behind), list)
        self.assertTrue(all(type(row) is tuple for row in behind))
        self.assertEqual(table_of(behind), behind)

    def assert_better(self, wishes, table, ring, behind):
        people = [person for person, given, taken in ring]
        for person, wish in enumerate(wishes):
            had = worths(wish, table[person])
            has = worths(wish, behind[person])
            if person in people:
                self.assertTrue(all(now >= then for now, then in zip(has, had)))
                self.assertTrue(any(now > then for now, then in zip(has, had)))
            else:
                self.assertEqual(behind[person], table[person])

    def look(self, wishes, table):
        """The table behind the change of a ring that is right, or None where an order is right."""
        answer = ring_or_order(wishes, table)
        self.assertIs(type(answer), tuple)
        self.assertEqual(len(answer), 2)
        if answer[0] is True:
            self.assert_order(wishes, table, answer[1])
            return None
        self.assertIs(answer[0], False)
        self.assertIs(type(answer[1]), tuple)
        ring, behind = answer[1]
        self.assert_ring(wishes, table, ring)
        self.assert_behind(table, ring, behind)
        self.assert_better(wishes, table, ring, behind)
        return behind

    def look_to_the_end(self, wishes, table, most):
        looks = 0
        while table is not None:
            table = self.look(wishes, table)
            looks += 1
            self.assertLess(looks, most)


class RingOrOrder(Looks):
    def test_one_person(self):
        self.assertEqual(ring_or_order([(0,)], [(ONE,)]), (True, [0]))

    def test_two_people(self):
        self.assertEqual(ring_or_order([(0, 1), (0, 1)], [(HALF, HALF)] * 2), (True, [0, 1]))
        self.assertEqual(ring_or_order([(1, 0), (1, 0)], deal_table((0, 1))), (True, [1, 0]))
        self.assertIsNone(self.look([(0, 1), (1, 0)], deal_table((0, 1))))
        self.assertEqual(self.look([(0, 1), (1, 0)], deal_table((1, 0))), deal_table((0, 1)))
        self.assertEqual(self.look([(0, 1), (1, 0)], [(HALF, HALF)] * 2), deal_table((0, 1)))
        self.assertEqual(self.look([(1, 0), (0, 1)], [(THIRD, (2, 3)), ((2, 3), THIRD)]), deal_table((1, 0)))

    def test_a_ring_of_all(self):
        for count in range(2, 7):
            # Each likes best what their neighbour has, and next their own.
            wishes = []
            for person in range(count):
                first = [(person + 1) % count, person]
                wishes.append(tuple(first + [thing for thing in range(count) if thing not in first]))
            answer = ring_or_order(wishes, deal_table(tuple(range(count))))
            self.assertIs(answer[0], False)
            ring, behind = answer[1]
            self.assertEqual(sorted(ring), [(person, person, (person + 1) % count) for person in range(count)])
            self.assertEqual(behind, deal_table(tuple((person + 1) % count for person in range(count))))
            self.look_to_the_end(wishes, deal_table(tuple(range(count))), 3)

    def test_a_share_of_nothing_is_not_given(self):
        # Person 1 likes 1 better than 0, but has no 0 to give.
        wishes = [(0, 1, 2), (1, 0, 2), (0, 1, 2)]
        self.assertIsNone(self.look(wishes, [(HALF, NIL, HALF), (NIL, ONE, NIL), (HALF, NIL, HALF)]))

    def test_the_turns_of_four(self):
        # By turns each has a bit of what the others like best, and they could change it.
        wishes = [(0, 1, 2, 3), (0, 1, 2, 3), (1, 0, 2, 3), (1, 0, 2, 3)]
        table = by_turns(wishes)
        self.assertEqual(table[0], ((5, 12), (1, 12), QUARTER, QUARTER))
        behind = self.look(wishes, table)
        self.assertIsNotNone(behind)
        self.look_to_the_end(wishes, behind, 3)

    def test_nobody_stands_twice(self):
        # From thing 0 on the nearest way back is by person 0, who gives 2, person 1, who gives 1,
        # and person 0 again, who gives 0.
        wishes = [(1, 0, 2, 3), (2, 1, 0, 3), (0, 3, 1, 2), (1, 3, 0, 2)]
        table = [(HALF, NIL, HALF, NIL), (NIL, HALF, HALF, NIL), (HALF, NIL, NIL, HALF), (NIL, HALF, NIL, HALF)]
        self.assertEqual(sorted(ring_or_order(wishes, table)[1][0]), [(0, 2, 1), (1, 1, 2)])
        behind = self.look(wishes, table)
        self.assertEqual(behind[:2], [(HALF, HALF, NIL, NIL), (NIL, NIL, ONE, NIL)])
        self.assertIsNone(self.look(wishes, behind))

    def test_many_tables_of_three_and_four(self):
        for wishes, table in mixed_tables(3, 600, 30) + mixed_tables(4, 600, 30):
            self.look(wishes, table)

    def test_all_deals_of_three(self):
        for wishes in many_wishes():
            if len(wishes) <= 3:
                for deal in permutations(range(len(wishes))):
                    self.look(wishes, deal_table(deal))

    def test_both_answers_of_two_to_six_people(self):
        seen = {}
        for wishes, table in many_tables():
            seen[(len(wishes), self.look(wishes, table) is None)] = True
        right = [(1, True)] + [(count, answer) for count in range(2, 7) for answer in (False, True)]
        self.assertEqual(sorted(seen), right)

    def test_again_and_again(self):
        for wishes, table in many_tables():
            self.look_to_the_end(wishes, table, 300)

    def test_a_small_share_beside_great_ones(self):
        # With rings of the small step alone the changes would go on for about as many turns
        # as the small share goes into the whole.
        small = (1, FORTY)
        rest = (FORTY - 1, FORTY)
        wishes = [(1, 0, 2), (0, 1, 2), (2, 1, 0)]
        table = [(rest, NIL, small), (NIL, small, rest), (small, rest, NIL)]
        self.look_to_the_end(wishes, table, 10)
        wishes = [(0, 1, 2), (2, 0, 1), (1, 2, 0)]
        for rows in permutations(table):
            self.look_to_the_end(wishes, list(rows), 10)

    def test_an_order_of_the_eaten_table(self):
        for wishes in many_wishes():
            self.assertIsNone(self.look(wishes, eaten(wishes)))

    def test_by_name(self):
        self.assertEqual(ring_or_order(wishes=[(0,)], table=[(ONE,)]), (True, [0]))


class DealsWithoutARing(Looks):
    def assert_no_change(self, wishes, deal):
        for other in permutations(deal):
            movers = [person for person in range(len(deal)) if other[person] != deal[person]]
            better = [wishes[person].index(other[person]) < wishes[person].index(deal[person]) for person in movers]
            self.assertFalse(movers and all(better), (wishes, deal, other))

    def test_where_an_order_is_told_no_deal_has_a_ring(self):
        counts = {}
        for wishes, table in many_tables()[::3]:
            if ring_or_order(wishes, table)[0]:
                for weight, deal in lots_of(table):
                    self.assert_no_change(wishes, deal)
                    counts[len(deal)] = True
        self.assertEqual(sorted(counts), [1, 2, 3, 4, 5, 6])

    def test_no_deal_of_the_eaten_table_has_a_ring(self):
        for wishes in many_wishes()[::7]:
            for weight, deal in lots_of(eaten(wishes)):
                self.assert_no_change(wishes, deal)


class NothingIsShared(unittest.TestCase):
    def test_what_is_handed_in_stays(self):
        for wishes, table in many_tables()[::10]:
            kept = copy.deepcopy((wishes, table))
            rather(wishes, table)
            ring_or_order(wishes, table)
            self.assertEqual((wishes, table), kept)

    def test_what_is_told_is_the_askers_own(self):
        for table in (deal_table((0, 1)), deal_table((1, 0))):
            wishes = [(0, 1), (1, 0)]
            kept = copy.deepcopy((wishes, table))
            one = ring_or_order(wishes, table)
            right = copy.deepcopy(one)
            two = ring_or_order(wishes, table)
            wishes.reverse()
            table.clear()
            self.assertEqual(one, right)
            for part in ([one[1]] if one[0] else one[1]):
                part.clear()
            self.assertEqual(two, right)
            self.assertEqual(ring_or_order(kept[0], kept[1]), right)

    def test_the_table_behind_is_not_the_table_ahead(self):
        table = [(HALF, HALF)] * 2
        ring, behind = ring_or_order([(0, 1), (1, 0)], table)[1]
        behind.clear()
        self.assertEqual(table, [(HALF, HALF)] * 2)
        table.clear()
        self.assertEqual(len(ring), 2)
