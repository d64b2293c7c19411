import copy
import inspect
import itertools
import unittest

from ringpop.nets import net_of
from ringpop.piles import pop_ring, rings_of, tops_of
from ringpop.popping import marked_rings, pop_out, pop_rounds, put_back
from ringpop.trees import is_tree

from samples import Dice, great_piles, small_piles
from sharing import check_sharing

PILES = [[1, 0, 2], [0, 2], [2, 1, 2]]
RINGS = [[0, 1], [0], [2], [1, 2], [2]]
REST = [[2], [], []]
MARKED = [[(0, 0), (1, 0)], [(0, 1)], [(1, 1), (2, 1)], [(2, 0)], [(2, 2)]]


# Every way in which the piles can be popped out, ring by ring.
def all_ways(piles):
    rings = rings_of(tops_of(piles))
    if not rings:
        return [([], piles)]
    return [([ring] + more, rest) for ring in rings for more, rest in all_ways(pop_ring(piles, ring))]


# Told beside the depths that the program tells: counted from the words of the document.
def counted_marks(rings):
    return sorted(
        [(place, len([1 for ahead in rings[:turn] if place in ahead])) for place in ring]
        for turn, ring in enumerate(rings)
    )


def arrows_lost(piles, rest):
    return [len(pile) - len(left) for pile, left in zip(piles, rest)]


class TestInterface(unittest.TestCase):
    def test_names_of_arguments(self):
        self.assertEqual(str(inspect.signature(pop_out)), "(piles, order=None)")
        self.assertEqual(str(inspect.signature(put_back)), "(piles, rings)")
        self.assertEqual(str(inspect.signature(marked_rings)), "(rings)")
        self.assertEqual(str(inspect.signature(pop_rounds)), "(piles)")


class TestPopOut(unittest.TestCase):
    def test_the_first_ring_where_no_order_tells(self):
        for order in ([], None, [0], [0, 0, 0, 0, 0], [0] * 9):
            self.assertEqual(pop_out(PILES, order), (RINGS, REST))
        self.assertEqual(pop_out(PILES), (RINGS, REST))
        self.assertEqual(pop_out(piles=PILES, order=None), (RINGS, REST))

    def test_a_tuple_of_two_lists(self):
        told = pop_out(PILES)
        self.assertIs(type(told), tuple)
        self.assertEqual([type(part) for part in told], [list, list])

    def test_orders(self):
        self.assertEqual(pop_out(PILES, [1]), ([[2], [0, 1], [0], [1, 2], [2]], REST))
        self.assertEqual(pop_out(PILES, [0, 1]), ([[0, 1], [2], [0], [1, 2], [2]], REST))
        self.assertEqual(pop_out(PILES, [1, 0, 1]), ([[2], [0, 1], [1, 2], [0], [2]], REST))
        self.assertEqual(pop_out(PILES, [1, 0, 1, 1]), ([[2], [0, 1], [1, 2], [2], [0]], REST))

    def test_numbers_beyond_how_many_rings_there_are(self):
        self.assertEqual(pop_out(PILES, [3]), pop_out(PILES, [1]))
        self.assertEqual(pop_out(PILES, [2]), (RINGS, REST))
        self.assertEqual(pop_out(PILES, [1, 5, 3]), pop_out(PILES, [1, 0, 1]))
        self.assertEqual(pop_out(PILES, [10 ** 30 - 1]), pop_out(PILES, [1]))
        self.assertEqual(pop_out(PILES, [10 ** 30 + 1, 10 ** 40, 7, 9]), pop_out(PILES, [1, 0, 1, 1]))
        self.assertEqual(pop_out([[0], [1], [2]], [5])[0], [[2], [0], [1]])
        self.assertEqual(pop_out([[0], [1], [2]], [4, 4])[0], [[1], [0], [2]])
        self.assertEqual(pop_out([[0], [1], [2]], [4, 3])[0], [[1], [2], [0]])

    def test_orders_longer_than_what_is_popped(self):
        self.assertEqual(pop_out(PILES, [1, 0, 1, 1, 0, 7, 8, 9]), pop_out(PILES, [1, 0, 1, 1]))
        self.assertEqual(pop_out(PILES, [0] * 5 + list(range(1000))), (RINGS, REST))
        self.assertEqual(pop_out([[]], [1, 2, 3]), ([], [[]]))
        # What lies beyond the last ring isn't looked at.
        self.assertEqual(pop_out(PILES, [0] * 5 + [None, "text", -1]), (RINGS, REST))

    def test_no_ring_at_all(self):
        for piles in ([[]], [[], []], [[1], []], [[], [0, 0, 0], [1, 2]], [[1, 0], [2, 1], []]):
            for order in (None, [], [3, 1]):
                self.assertEqual(pop_out(piles, order), ([], piles))

    def test_piles_that_run_out(self):
        self.assertEqual(pop_out([[0] * 40]), ([[0]] * 40, [[]]))
        self.assertEqual(pop_out([[1] * 40, [0] * 40]), ([[0, 1]] * 40, [[], []]))
        self.assertEqual(pop_out([[1] * 40, [0] * 39]), ([[0, 1]] * 39, [[1], []]))

    def test_beyond_the_bounds(self):
        self.assertEqual(pop_out([[0] * 60]), ([[0]] * 60, [[]]))
        nine = [[] for place in range(8)] + [[8, 8, 0]]
        self.assertEqual(pop_out(nine), ([[8], [8]], [[] for place in range(8)] + [[0]]))

    def test_each_step_is_the_one_that_the_order_tells(self):
        dice = Dice(9)
        for piles in great_piles():
            order = dice.order(dice.throw(30))
            rings, rest = pop_out(piles, order)
            left = piles
            for turn, ring in enumerate(rings):
                found = rings_of(tops_of(left))
                number = order[turn] if turn < len(order) else 0
                self.assertEqual(ring, found[number % len(found)])
                left = pop_ring(left, ring)
            self.assertEqual(rings_of(tops_of(left)), [])
            self.assertEqual(rest, left)

    def test_all_stays_and_is_not_shared(self):
        for piles in [PILES, [[]], [[1], []], [[0] * 40]] + great_piles():
            check_sharing(self, pop_out, piles)
            check_sharing(self, pop_out, piles, None)
            check_sharing(self, pop_out, piles, [])
            check_sharing(self, pop_out, piles, [3, 1, 4, 1, 5])
        pile = [0, 1, 0]
        self.assertEqual(pop_out([pile, pile]), ([[0], [0, 1], [0], [1]], [[], [0]]))
        self.assertEqual(pile, [0, 1, 0])


class TestPutBack(unittest.TestCase):
    def test_from_the_last_ring_to_the_first(self):
        self.assertEqual(put_back(REST, RINGS), PILES)
        self.assertEqual(put_back([[], [], []], [[0, 1], [1, 2]]), [[1], [0, 2], [1]])
        self.assertEqual(put_back([[], [], []], [[1, 2], [0, 1]]), [[1], [2, 0], [1]])

    def test_arrows_to_the_next_place_and_from_the_last_to_the_first(self):
        self.assertEqual(put_back([[], [], []], [[0, 2, 1]]), [[2], [0], [1]])
        self.assertEqual(put_back([[], [], []], [[0, 1, 2]]), [[1], [2], [0]])
        self.assertEqual(put_back([[], []], [[1]]), [[], [1]])
        falling = [[7]] + [[place] for place in range(7)]
        self.assertEqual(put_back([[] for place in range(8)], [[0, 7, 6, 5, 4, 3, 2, 1]]), falling)

    def test_no_rings(self):
        for piles in ([[]], PILES, [[0] * 40], [[], [0]]):
            self.assertEqual(put_back(piles, []), piles)

    def test_on_other_piles(self):
        self.assertEqual(put_back([[1, 1], [1]], [[0, 1], [0]]), [[1, 0, 1, 1], [0, 1]])
        self.assertEqual(put_back([[0], [0]], [[0, 1]]), [[1, 0], [0, 0]])
        self.assertEqual(put_back([[], [], [], [2]], [[0, 1], [1]]), [[1], [0, 1], [], [2]])

    def test_a_pile_may_come_to_have_more_than_forty(self):
        self.assertEqual(put_back([[0] * 40], [[0]]), [[0] * 41])
        self.assertEqual(put_back([[1] * 40, []], [[0, 1]] * 40), [[1] * 80, [0] * 40])
        self.assertEqual(pop_out([[1] * 80, [0] * 40]), ([[0, 1]] * 40, [[1] * 40, []]))

    def test_popped_out_and_put_back_come_to_the_same_piles(self):
        dice = Dice(1)
        for piles in small_piles(3, 2) + small_piles(2, 4) + great_piles():
            for order in (None, [1, 0, 1, 2], dice.order(40)):
                rings, rest = pop_out(piles, order)
                self.assertEqual(put_back(rest, rings), piles)

    def test_what_was_put_back_is_popped_again(self):
        for piles in great_piles():
            rings, rest = pop_out(piles)
            self.assertEqual(pop_out(put_back(rest, rings)), (rings, rest))

    def test_all_stays_and_is_not_shared(self):
        for piles in great_piles():
            rings, rest = pop_out(piles)
            check_sharing(self, put_back, rest, rings)
            check_sharing(self, put_back, piles, [])
        pile = []
        self.assertEqual(put_back([pile, pile], [[0]]), [[0], []])
        ring = [0, 1]
        check_sharing(self, put_back, [[], []], [ring, ring])


class TestMarkedRings(unittest.TestCase):
    def test_depths_tell_how_many_rings_ahead_have_the_place(self):
        self.assertEqual(marked_rings([[0]]), [[(0, 0)]])
        self.assertEqual(marked_rings([[0], [0], [0]]), [[(0, 0)], [(0, 1)], [(0, 2)]])
        self.assertEqual(marked_rings([[0, 1], [1], [0, 1]]), [[(0, 0), (1, 0)], [(0, 1), (1, 2)], [(1, 1)]])
        self.assertEqual(marked_rings([[1], [0, 1], [0, 1]]), [[(0, 0), (1, 1)], [(0, 1), (1, 2)], [(1, 0)]])
        self.assertEqual(marked_rings(RINGS), MARKED)

    def test_sorted_whatever_the_order(self):
        self.assertEqual(marked_rings([[2], [1], [0]]), [[(0, 0)], [(1, 0)], [(2, 0)]])
        self.assertEqual(marked_rings([[5], [0, 7]]), [[(0, 0), (7, 0)], [(5, 0)]])
        self.assertEqual(marked_rings([[0, 2], [0, 1], [0]]), [[(0, 0), (2, 0)], [(0, 1), (1, 0)], [(0, 2)]])

    def test_the_places_of_a_ring_stay_in_its_order(self):
        self.assertEqual(marked_rings([[0, 2, 1]]), [[(0, 0), (2, 0), (1, 0)]])
        self.assertEqual(marked_rings([[1], [0, 3, 1, 2]]), [[(0, 0), (3, 0), (1, 1), (2, 0)], [(1, 0)]])

    def test_no_rings(self):
        self.assertEqual(marked_rings([]), [])

    def test_kinds(self):
        told = marked_rings(RINGS)
        self.assertIs(type(told), list)
        self.assertTrue(all(type(ring) is list for ring in told))
        self.assertTrue(all(type(mark) is tuple for ring in told for mark in ring))

    def test_counted_from_the_words(self):
        for piles in small_piles(3, 2) + great_piles():
            rings = pop_out(piles, [1, 2, 3])[0]
            self.assertEqual(marked_rings(rings), counted_marks(rings))

    def test_all_stays_and_is_not_shared(self):
        for piles in [PILES] + great_piles():
            check_sharing(self, marked_rings, pop_out(piles)[0])
        ring = [0, 1]
        check_sharing(self, marked_rings, [ring, ring, [0]])


class TestAnyOrder(unittest.TestCase):
    def test_orders_of_the_same_piles(self):
        for order in itertools.product(range(3), repeat=5):
            rings, rest = pop_out(PILES, list(order))
            self.assertEqual((marked_rings(rings), rest), (MARKED, REST))

    def test_all_ways_of_small_piles(self):
        for piles in small_piles(3, 2) + small_piles(2, 4):
            told = {(str(marked_rings(rings)), str(rest)) for rings, rest in all_ways(piles)}
            rings, rest = pop_out(piles)
            self.assertEqual(told, {(str(marked_rings(rings)), str(rest))}, piles)

    def test_many_orders_of_great_piles(self):
        dice = Dice(3)
        for piles in great_piles():
            rings, rest = pop_out(piles)
            marked = marked_rings(rings)
            for turn in range(6):
                other = pop_out(piles, dice.order(dice.throw(200)))
                self.assertEqual(marked_rings(other[0]), marked)
                self.assertEqual(other[1], rest)

    def test_emptied_at_one_place_others_lose_no_more(self):
        for piles in small_piles(3, 2) + great_piles():
            lost = arrows_lost(piles, pop_out(piles)[1])
            for place in range(len(piles)):
                emptied = copy.deepcopy(piles)
                emptied[place] = []
                now = arrows_lost(emptied, pop_out(emptied)[1])
                self.assertTrue(all(few <= many for few, many in zip(now, lost)), (piles, place))


class TestPopRounds(unittest.TestCase):
    def test_rounds(self):
        self.assertEqual(pop_rounds(PILES), [[[0, 1], [2]], [[0], [1, 2]], [[2]]])
        self.assertEqual(pop_rounds([[0, 0], [1], [2, 2, 2]]), [[[0], [1], [2]], [[0], [2]], [[2]]])
        self.assertEqual(pop_rounds([[1, 1], [0, 2, 0], [1]]), [[[0, 1]], [[1, 2]], [[0, 1]]])
        self.assertEqual(pop_rounds([[0] * 40]), [[[0]]] * 40)
        self.assertEqual(pop_rounds([[0] * 60]), [[[0]]] * 60)

    def test_no_ring_no_round(self):
        for piles in ([[]], [[1], []], [[], [0, 1]], [[] for place in range(8)]):
            self.assertEqual(pop_rounds(piles), [])

    def test_each_round_is_all_rings_of_the_tops(self):
        for piles in small_piles(3, 2) + great_piles():
            left = piles
            for found in pop_rounds(piles):
                self.assertEqual(found, rings_of(tops_of(left)))
                self.assertNotEqual(found, [])
                for ring in found:
                    left = pop_ring(left, ring)
            self.assertEqual(rings_of(tops_of(left)), [])
            self.assertEqual(left, pop_out(piles)[1])

    def test_the_same_rings_as_in_any_order(self):
        for piles in small_piles(3, 2) + great_piles():
            rings = [ring for found in pop_rounds(piles) for ring in found]
            self.assertEqual(marked_rings(rings), marked_rings(pop_out(piles)[0]))

    def test_a_place_in_common_with_one_of_the_round_ahead(self):
        for piles in small_piles(3, 2) + great_piles():
            rounds = pop_rounds(piles)
            for ahead, found in zip(rounds, rounds[1:]):
                places = {place for ring in ahead for place in ring}
                for ring in found:
                    self.assertTrue(places & set(ring), (piles, ring))

    def test_all_stays_and_is_not_shared(self):
        for piles in [PILES, [[]]] + great_piles():
            check_sharing(self, pop_rounds, piles)


class TestTreesThatAreLeft(unittest.TestCase):
    # Places with arrows in the net are those that have a pile.
    def net_around(self, piles):
        ends = [range(len(piles)) if pile else [] for pile in piles]
        return net_of([[(to, 1) for to in row] for row in ends])

    def trees_of(self, net):
        ends = [[to for to, weight in row] or [None] for row in net]
        return [list(tree) for tree in itertools.product(*ends) if is_tree(net, list(tree))]

    def test_the_tops_left_are_a_tree_and_any_other_may_stand_there(self):
        met = 0
        for piles in small_piles(3, 2):
            net = self.net_around(piles)
            rings, rest = pop_out(piles)
            if any(row and not pile for row, pile in zip(net, rest)):
                continue
            met += 1
            self.assertTrue(is_tree(net, tops_of(rest)))
            for tree in self.trees_of(net):
                other = [pile[:] if end is None else [end] + pile[1:] for end, pile in zip(tree, rest)]
                now, left = pop_out(put_back(other, rings))
                self.assertEqual(marked_rings(now), marked_rings(rings))
                self.assertEqual(tops_of(left), tree)
                self.assertEqual(left, other)
        self.assertGreater(met, 100)

    def test_great_piles_leave_trees_too(self):
        met = 0
        for piles in great_piles():
            net = self.net_around(piles)
            rest = pop_out(piles)[1]
            if not any(row and not pile for row, pile in zip(net, rest)):
                met += 1
                self.assertTrue(is_tree(net, tops_of(rest)))
        self.assertGreater(met, 5)


if __name__ == "__main__":
    unittest.main()
