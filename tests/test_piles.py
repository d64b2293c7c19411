import copy
import inspect
import itertools
import unittest

from ringpop.errors import NoPiles, NoRing
from ringpop.piles import piles_of, pop_ring, rings_of, tops_of

from oddities import EqualToAll, oddities
from refusing import check_refused
from samples import great_piles, small_piles
from sharing import check_sharing

NET = [[], [(0, 1), (2, 3)], [(1, 1)]]
FULL = [[(to, 1) for to in range(8)] for place in range(8)]

FITTING = (
    ([[]], [[]]),
    ([[(0, 1)]], [[]]),
    ([[(0, 1)]], [[0]]),
    ([[(0, 1)]], [[0] * 40]),
    (NET, [[], [], []]),
    (NET, [[], [0], []]),
    (NET, [[], [], [1]]),
    (NET, [[], [2, 0, 0, 2], [1, 1]]),
    (NET, [[], [0, 2] * 20, [1] * 40]),
    ([[] for place in range(8)], [[] for place in range(8)]),
    (FULL, [[(place + arrow) % 8 for arrow in range(40)] for place in range(8)]),
    (FULL, [[7], [], [0, 1], [], [], [], [], [0, 7]]),
)


class TestInterface(unittest.TestCase):
    def test_names_of_arguments(self):
        self.assertEqual(str(inspect.signature(piles_of)), "(net, things)")
        self.assertEqual(str(inspect.signature(tops_of)), "(piles)")
        self.assertEqual(str(inspect.signature(rings_of)), "(tops)")
        self.assertEqual(str(inspect.signature(pop_ring)), "(piles, ring)")


class TestPilesOf(unittest.TestCase):
    def refused(self, net, things):
        check_refused(self, NoPiles, piles_of, net, things)

    def test_piles_that_fit_are_told_as_they_are(self):
        for net, things in FITTING:
            piles = piles_of(net, copy.deepcopy(things))
            self.assertEqual(piles, things)
            self.assertIs(type(piles), list)
            self.assertTrue(all(type(pile) is list for pile in piles))
            self.assertEqual(piles_of(net, piles), things)

    def test_no_list(self):
        for things in [None, (), ([], [], []), ([], [0], [1]), 0, 3, "-; 0; 1", {0: [], 1: [], 2: []}] + oddities():
            self.refused(NET, things)
        for things in [None, (), ([],), 1, "-", "", {0: []}] + oddities():
            self.refused([[]], things)
            self.refused([[(0, 1)]], things)

    def test_too_many_or_too_few_piles(self):
        self.refused(NET, [])
        self.refused(NET, [[]])
        self.refused(NET, [[], [0]])
        self.refused(NET, [[], [0], [1], []])
        self.refused(NET, [[], [0], [1], [], []])
        self.refused([[]], [])
        self.refused([[]], [[], []])
        self.refused(FULL, [[] for place in range(7)])
        self.refused(FULL, [[] for place in range(9)])

    def test_a_pile_that_is_no_list(self):
        for pile in [None, (), (0,), (1,), 0, 1, "", "0", {}, {0: 0}, set(), range(0)] + oddities():
            self.refused(NET, [pile, [], []])
            self.refused(NET, [[], pile, []])
            self.refused(NET, [[], [0], pile])
            self.refused([[]], [pile])

    def test_a_thing_that_is_no_end_of_its_places_arrows(self):
        for thing in (1, 3, -1, -3, 8, 10 ** 29):
            self.refused(NET, [[], [thing], []])
            self.refused(NET, [[], [0, thing], []])
            self.refused(NET, [[], [thing, 2], []])
            self.refused(NET, [[], [0] * 39 + [thing], [1]])
        for thing in (0, 2, 3, -2):
            self.refused(NET, [[], [], [thing]])
            self.refused(NET, [[], [0], [1, thing, 1]])
        self.refused([[(0, 1)]], [[1]])
        self.refused([[(0, 1)]], [[-1]])

    def test_weights_are_no_ends(self):
        self.refused([[], [(0, 1)]], [[], [1]])
        self.refused([[], [(1, 1), (2, 9)], [(1, 2)]], [[], [1], [2]])

    def test_things_of_any_sort_in_a_pile(self):
        for thing in [None, [], [0], [1], (), (0,), (0, 1), 0.0, 1.0, "0", "1", {}, True, False] + oddities():
            self.refused(NET, [[], [thing], []])
            self.refused(NET, [[], [], [thing]])
            self.refused(NET, [[], [0, 2, thing], [1]])
            self.refused(NET, [[thing], [0], [1]])
            self.refused(FULL, [[thing]] + [[] for place in range(7)])

    def test_an_arrow_at_a_root(self):
        for end in range(3):
            self.refused(NET, [[end], [0], [1]])
            self.refused(NET, [[end], [], []])
        self.refused([[]], [[0]])
        self.refused([[], []], [[], [0]])
        self.refused([[(0, 1), (1, 1)], []], [[0], [0]])

    def test_a_pile_of_more_than_forty(self):
        for size in (41, 42, 80, 1000):
            self.refused([[(0, 1)]], [[0] * size])
            self.refused(NET, [[], [0] * size, []])
            self.refused(NET, [[], [0], [1] * size])
        self.assertEqual(piles_of(NET, [[], [0] * 40, [1] * 40]), [[], [0] * 40, [1] * 40])

    def test_all_small_piles(self):
        nets = (NET, [[], [], []], [[(0, 1)], [(0, 1), (1, 1), (2, 1)], []], [[(1, 1), (2, 1)], [(2, 1)], [(0, 1)]])
        for net in nets:
            ends = [[to for to, weight in row] for row in net]
            for things in small_piles(3, 2):
                if all(set(pile) <= set(row) for pile, row in zip(things, ends)):
                    self.assertEqual(piles_of(net, things), things)
                else:
                    self.refused(net, things)

    def test_all_stays_and_is_not_shared(self):
        for net, things in FITTING:
            check_sharing(self, piles_of, net, things)
        pile = [0, 1]
        check_sharing(self, piles_of, [[(0, 1), (1, 1)], [(0, 1), (1, 1)]], [pile, pile])

    def test_a_refused_thing_stays_too(self):
        things = [[], [0, True], [1]]
        self.refused(NET, things)
        self.assertEqual(things, [[], [0, True], [1]])
        self.assertIs(things[1][1], True)


class TestTopsOf(unittest.TestCase):
    def test_the_first_of_each_pile_or_none(self):
        self.assertEqual(tops_of([[]]), [None])
        self.assertEqual(tops_of([[0]]), [0])
        self.assertEqual(tops_of([[1, 0], [], [2, 1, 0]]), [1, None, 2])
        self.assertEqual(tops_of([[0, 1], [0, 1]]), [0, 0])
        self.assertEqual(tops_of([[] for place in range(8)]), [None] * 8)
        self.assertEqual(tops_of([[7 - place] * 40 for place in range(8)]), [7, 6, 5, 4, 3, 2, 1, 0])

    def test_great_piles(self):
        for piles in great_piles():
            tops = tops_of(piles)
            self.assertEqual(len(tops), len(piles))
            for top, pile in zip(tops, piles):
                self.assertEqual([top] if pile else top, pile[:1] or None)

    def test_all_stays_and_is_not_shared(self):
        for piles in great_piles():
            check_sharing(self, tops_of, piles)


# Found another way than by following the tops: every row of places is tried.
def tried_rings(tops):
    rings = []
    for size in range(1, len(tops) + 1):
        for ring in itertools.permutations(range(len(tops)), size):
            ends = [tops[place] for place in ring]
            if ring[0] == min(ring) and ends == list(ring[1:] + ring[:1]):
                rings.append(list(ring))
    return sorted(rings)


class TestRingsOf(unittest.TestCase):
    def test_no_ring(self):
        self.assertEqual(rings_of([None]), [])
        self.assertEqual(rings_of([None] * 8), [])
        self.assertEqual(rings_of([1, None]), [])
        self.assertEqual(rings_of([None, 0, 1]), [])
        self.assertEqual(rings_of([1, 2, 3, 4, 5, 6, 7, None]), [])

    def test_one_place_alone(self):
        self.assertEqual(rings_of([0]), [[0]])
        self.assertEqual(rings_of([None, 1]), [[1]])
        self.assertEqual(rings_of([0, 1, 2]), [[0], [1], [2]])

    def test_several_rings(self):
        self.assertEqual(rings_of([1, 0, 2]), [[0, 1], [2]])
        self.assertEqual(rings_of([2, 3, 0, 1]), [[0, 2], [1, 3]])
        self.assertEqual(rings_of([3, 2, 1, 0]), [[0, 3], [1, 2]])
        self.assertEqual(rings_of([None, 7, 4, 3, 6, None, 2, 1]), [[1, 7], [2, 4, 6], [3]])

    def test_all_places_on_one_ring(self):
        self.assertEqual(rings_of([1, 0]), [[0, 1]])
        self.assertEqual(rings_of([1, 2, 0]), [[0, 1, 2]])
        self.assertEqual(rings_of([2, 0, 1]), [[0, 2, 1]])
        self.assertEqual(rings_of([1, 2, 3, 4, 5, 6, 7, 0]), [[0, 1, 2, 3, 4, 5, 6, 7]])
        self.assertEqual(rings_of([7, 0, 1, 2, 3, 4, 5, 6]), [[0, 7, 6, 5, 4, 3, 2, 1]])

    def test_tops_that_lead_into_a_ring(self):
        self.assertEqual(rings_of([1, 1]), [[1]])
        self.assertEqual(rings_of([0, 0]), [[0]])
        self.assertEqual(rings_of([2, 2, 1]), [[1, 2]])
        self.assertEqual(rings_of([1, 2, 3, 2]), [[2, 3]])
        self.assertEqual(rings_of([0, 0, 0, 0, 0, 0, 0, 0]), [[0]])
        self.assertEqual(rings_of([5, 0, 1, 2, 3, 6, 5, 4]), [[5, 6]])

    def test_all_tops_of_up_to_four_places(self):
        for many in range(1, 5):
            for ends in itertools.product([None] + list(range(many)), repeat=many):
                self.assertEqual(rings_of(list(ends)), tried_rings(list(ends)), ends)

    def test_no_two_have_a_place_in_common(self):
        for piles in great_piles():
            places = [place for ring in rings_of(tops_of(piles)) for place in ring]
            self.assertEqual(len(set(places)), len(places))

    def test_all_stays_and_is_not_shared(self):
        for tops in ([None], [0, 1, 2], [1, 0, 2], [2, 3, 0, 1, 0], [7, 0, 1, 2, 3, 4, 5, 6]):
            check_sharing(self, rings_of, tops)


class TestPopRing(unittest.TestCase):
    def refused(self, piles, ring):
        check_refused(self, NoRing, pop_ring, piles, ring)

    def test_rings_are_popped(self):
        piles = [[1, 0, 2], [0, 2], [2, 1, 2]]
        self.assertEqual(pop_ring(piles, [0, 1]), [[0, 2], [2], [2, 1, 2]])
        self.assertEqual(pop_ring(piles, [2]), [[1, 0, 2], [0, 2], [1, 2]])
        self.assertEqual(pop_ring([[0]], [0]), [[]])
        self.assertEqual(pop_ring([[0] * 40], [0]), [[0] * 39])
        self.assertEqual(pop_ring([[2, 1], [0], [1, 1]], [0, 2, 1]), [[1], [], [1]])
        whole = [[(place + 1) % 8, place] for place in range(8)]
        self.assertEqual(pop_ring(whole, list(range(8))), [[place] for place in range(8)])

    def test_each_ring_of_many_tops(self):
        for piles in small_piles(3, 2) + great_piles():
            for ring in tried_rings(tops_of(piles)) if len(piles) < 5 else rings_of(tops_of(piles)):
                left = [pile[1:] if place in ring else pile for place, pile in enumerate(piles)]
                self.assertEqual(pop_ring(piles, ring), left)

    def test_a_list_made_elsewhere_is_a_ring_too(self):
        self.assertEqual(pop_ring([[1], [0]], list((0, 1))), [[], []])

    def test_all_other_rows_of_places(self):
        rows = [list(row) for size in range(5) for row in itertools.product(range(-1, 4), repeat=size)]
        for piles in ([[1], [2], [0]], [[1], [0], [2]], [[1], [1], [0]], [[1], [2], []], [[0, 1], [0, 1], [2]]):
            rings = tried_rings(tops_of(piles))
            for row in rows:
                if row not in rings:
                    self.refused(piles, row)

    def test_turned_round(self):
        self.refused([[1], [0]], [1, 0])
        self.refused([[1], [2], [0]], [1, 2, 0])
        self.refused([[1], [2], [0]], [2, 0, 1])
        self.refused([[1], [2], [0]], [0, 2, 1])

    def test_parts_and_more(self):
        self.refused([[1], [2], [0]], [0, 1])
        self.refused([[1], [2], [0]], [0])
        self.refused([[1], [2], [0], [0]], [0, 1, 2, 3])
        self.refused([[1], [2], [0], [0]], [3, 0, 1, 2])
        self.refused([[1], [0], [2]], [0, 1, 2])
        self.refused([[1], [0], [2]], [0, 1, 0, 1])
        self.refused([[1], [0], [2]], [2, 2])
        self.refused([[1], [0], [2]], [[0, 1], [2]])
        self.refused([[1], [0], [2]], [[0, 1]])

    def test_a_ring_that_lies_beneath(self):
        self.refused([[1, 0], [1]], [0])
        self.refused([[1, 1], [2, 0], []], [0, 1])

    def test_an_empty_list(self):
        for piles in ([[]], [[0]], [[1], [0]], [[1], []]):
            self.refused(piles, [])

    def test_bare_places(self):
        self.refused([[], [1]], [0])
        self.refused([[]], [0])
        self.refused([[1], []], [0, 1])
        self.refused([[]], [None])
        self.refused([[], [1]], [0, None])

    def test_places_out_of_bounds(self):
        for ring in ([-1], [3], [8], [-3], [0, 1, 3], [0, 4], [-3, -2], [0, -2], [10 ** 29], [10 ** 6000]):
            self.refused([[1], [0], [2]], ring)

    def test_truths_in_the_place_of_places(self):
        self.refused([[1], [0]], [False, True])
        self.refused([[1], [0]], [0, True])
        self.refused([[1], [0]], [False, 1])
        self.refused([[0], [1]], [False])
        self.refused([[0], [1]], [True])

    def test_things_of_any_sort(self):
        things = [
            None, (0, 1), (2,), "01", "0 1", "[0, 1]", "2", b"2", {0: 1, 1: 0}, {2: 2}, {0, 1}, range(2), 0, 1, 2,
            iter([0, 1]), [0.0, 1.0], [0, 1.0], [2.0], ["2"], ["0", "1"], [[2]], [(0, 1)], [None], [EqualToAll()],
            [0, EqualToAll()],
        ]
        for thing in things + oddities():
            self.refused([[1], [0], [2]], thing)
            self.refused([[], [], []], thing)
        for thing in oddities():
            self.refused([[1], [0], [2]], [thing])
            self.refused([[1], [0], [2]], [0, thing])
            self.refused([[1], [0], [2]], [2, thing])

    def test_beyond_the_bounds(self):
        self.assertEqual(pop_ring([[0] * 60], [0]), [[0] * 59])
        self.assertEqual(pop_ring([[] for place in range(8)] + [[8, 0]], [8]), [[] for place in range(8)] + [[0]])

    def test_all_stays_and_is_not_shared(self):
        for piles in ([[1, 0], [0], [2, 2], []], [[0] * 40], [[1], [2], [0], [1, 0, 3]]):
            for ring in tried_rings(tops_of(piles)):
                check_sharing(self, pop_ring, piles, ring)
        pile = [0, 1, 1]
        self.assertEqual(pop_ring([pile, pile], [0]), [[1, 1], [0, 1, 1]])
        self.assertEqual(pile, [0, 1, 1])


if __name__ == "__main__":
    unittest.main()
