import copy
import itertools
import unittest

from ringpop.errors import NoTree
from ringpop.trees import is_tree, road_of, weight_of

from listing import settles
from oddities import oddities
from refusing import check_refused
from samples import full_net

NET = [[], [(0, 1), (2, 3)], [(1, 1)]]
TWO_ROOTS = [[], [(0, 2), (1, 9), (2, 3)], [(1, 5), (3, 7)], []]
NO_ROOT = [[(1, 1)], [(0, 1), (1, 1)]]
CHAIN = [[]] + [[(place - 1, place + 1)] for place in range(1, 8)]


def lists_for(net):
    ends = [[None] + list(range(-1, len(net) + 1)) for row in net]
    return [list(things) for things in itertools.product(*ends)]


class TestIsTree(unittest.TestCase):
    def test_trees(self):
        self.assertIs(is_tree(NET, [None, 0, 1]), True)
        self.assertIs(is_tree([[]], [None]), True)
        self.assertIs(is_tree([[], []], [None, None]), True)
        self.assertIs(is_tree([[] for place in range(8)], [None] * 8), True)
        self.assertIs(is_tree(TWO_ROOTS, [None, 0, 1, None]), True)
        self.assertIs(is_tree(TWO_ROOTS, [None, 0, 3, None]), True)
        self.assertIs(is_tree(TWO_ROOTS, [None, 2, 3, None]), True)
        self.assertIs(is_tree(CHAIN, [None, 0, 1, 2, 3, 4, 5, 6]), True)

    def test_rings(self):
        self.assertIs(is_tree(NET, [None, 2, 1]), False)
        self.assertIs(is_tree(TWO_ROOTS, [None, 1, 3, None]), False)
        self.assertIs(is_tree(TWO_ROOTS, [None, 1, 1, None]), False)
        self.assertIs(is_tree(TWO_ROOTS, [None, 2, 1, None]), False)
        self.assertIs(is_tree([[(0, 1)]], [0]), False)
        eight = full_net(8, [0])
        self.assertIs(is_tree(eight, [None, 2, 3, 4, 5, 6, 7, 1]), False)
        self.assertIs(is_tree(eight, [None, 0, 0, 0, 5, 6, 7, 4]), False)
        self.assertIs(is_tree(eight, [None, 2, 3, 4, 5, 6, 7, 6]), False)
        self.assertIs(is_tree(eight, [None, 2, 3, 4, 5, 6, 7, 0]), True)

    def test_a_net_without_roots_has_no_tree(self):
        for things in lists_for(NO_ROOT):
            self.assertIs(is_tree(NO_ROOT, things), False)

    def test_an_end_that_no_arrow_has(self):
        self.assertIs(is_tree(NET, [None, 0, 0]), False)
        self.assertIs(is_tree(NET, [None, 1, 1]), False)
        self.assertIs(is_tree(NET, [None, 0, -2]), False)
        self.assertIs(is_tree(NET, [None, 3, 1]), False)
        self.assertIs(is_tree(NET, [None, -3, 1]), False)
        self.assertIs(is_tree(TWO_ROOTS, [None, 3, 3, None]), False)

    def test_none_in_a_wrong_place(self):
        self.assertIs(is_tree(NET, [None, None, 1]), False)
        self.assertIs(is_tree(NET, [None, 0, None]), False)
        self.assertIs(is_tree(NET, [0, 0, 1]), False)
        self.assertIs(is_tree(NET, [1, 0, 1]), False)
        self.assertIs(is_tree(NET, [None, None, None]), False)
        self.assertIs(is_tree([[]], [0]), False)

    def test_a_truth_is_no_end(self):
        self.assertIs(is_tree(NET, [None, False, 1]), False)
        self.assertIs(is_tree(NET, [None, 0, True]), False)
        self.assertIs(is_tree(NET, [False, 0, 1]), False)

    def test_too_long_or_too_short(self):
        for things in ([], [None], [None, 0], [None, 0, 1, None], [None, 0, 1, 0], [None, 0, 1, 1, 1]):
            self.assertIs(is_tree(NET, things), False)

    def test_things_that_are_no_list(self):
        for things in [None, 0, 1, 3, (None, 0, 1), "- 0 1", "", {0: None, 1: 0, 2: 1}, {}] + oddities():
            self.assertIs(is_tree(NET, things), False)
            self.assertIs(is_tree([[]], things), False)
        self.assertIs(is_tree([[]], (None,)), False)

    def test_things_of_any_sort_within(self):
        for thing in [[], [0], (), (0,), (0, 1), 0.0] + oddities():
            self.assertIs(is_tree(NET, [thing, 0, 1]), False)
            self.assertIs(is_tree(NET, [None, thing, 1]), False)
            self.assertIs(is_tree(NET, [None, 0, thing]), False)
            self.assertIs(is_tree([[]], [thing]), False)

    def test_all_lists_of_some_nets(self):
        nets = (
            NET, TWO_ROOTS, NO_ROOT, [[]], full_net(3, [1]), full_net(4, [3]), full_net(4, [0, 2]),
            full_net(4, []), [[(1, 1)], [(2, 1)], [(0, 1), (3, 1)], []], [[], [(2, 1)], [(1, 1)]],
        )
        for net in nets:
            for things in lists_for(net):
                self.assertIs(is_tree(net, things), settles(net, things), (net, things))

    def test_how_many_trees_a_full_net_has(self):
        for many, trees in ((1, 1), (2, 1), (3, 3), (4, 16), (5, 125)):
            net = full_net(many, [0])
            found = [1 for ends in itertools.product(range(many), repeat=many - 1) if is_tree(net, [None, *ends])]
            self.assertEqual(len(found), trees)

    def test_what_was_handed_in_stays(self):
        for things in ([None, 0, 1], [None, 2, 1], [None, [0], 1]):
            net = copy.deepcopy(NET)
            handed = copy.deepcopy(things)
            is_tree(net, handed)
            self.assertEqual(net, NET)
            self.assertEqual(handed, things)


class TestRoadOf(unittest.TestCase):
    def test_roads(self):
        self.assertEqual(road_of(NET, [None, 0, 1], 0), [0])
        self.assertEqual(road_of(NET, [None, 0, 1], 1), [1, 0])
        self.assertEqual(road_of(NET, [None, 0, 1], 2), [2, 1, 0])
        self.assertEqual(road_of([[]], [None], 0), [0])
        self.assertEqual(road_of(TWO_ROOTS, [None, 2, 3, None], 1), [1, 2, 3])
        self.assertEqual(road_of(TWO_ROOTS, [None, 0, 3, None], 1), [1, 0])
        self.assertEqual(road_of(TWO_ROOTS, [None, 0, 3, None], 3), [3])
        self.assertEqual(road_of(CHAIN, [None, 0, 1, 2, 3, 4, 5, 6], 7), [7, 6, 5, 4, 3, 2, 1, 0])

    def test_built_anew_and_all_stays(self):
        net = copy.deepcopy(NET)
        tree = [None, 0, 1]
        one = road_of(net, tree, 2)
        other = road_of(net, tree, 2)
        self.assertIsNot(one, other)
        one.append("changed")
        self.assertEqual(other, [2, 1, 0])
        self.assertEqual(road_of(net, tree, 2), [2, 1, 0])
        self.assertEqual((net, tree), (NET, [None, 0, 1]))


class TestWeightOf(unittest.TestCase):
    def test_products(self):
        self.assertEqual(weight_of(NET, [None, 0, 1]), 1)
        self.assertEqual(weight_of(TWO_ROOTS, [None, 0, 1, None]), 10)
        self.assertEqual(weight_of(TWO_ROOTS, [None, 0, 3, None]), 14)
        self.assertEqual(weight_of(TWO_ROOTS, [None, 2, 3, None]), 21)
        self.assertEqual(weight_of(CHAIN, [None, 0, 1, 2, 3, 4, 5, 6]), 40320)

    def test_1_where_all_places_are_roots(self):
        for many in range(1, 9):
            self.assertEqual(weight_of([[] for place in range(many)], [None] * many), 1)

    def test_weights_of_many_figures(self):
        great = 10 ** 30 - 1
        net = [[]] + [[(0, great)] for place in range(7)]
        self.assertEqual(weight_of(net, [None] + [0] * 7), great ** 7)
        self.assertEqual(weight_of([[], [(0, 10 ** 6000)]], [None, 0]), 10 ** 6000)

    def test_all_stays(self):
        net = copy.deepcopy(TWO_ROOTS)
        tree = [None, 0, 1, None]
        self.assertEqual(weight_of(net, tree), weight_of(net, tree))
        self.assertEqual((net, tree), (TWO_ROOTS, [None, 0, 1, None]))


class TestNoTree(unittest.TestCase):
    def refused(self, net, things):
        check_refused(self, NoTree, weight_of, net, things)
        for place in range(len(net)):
            check_refused(self, NoTree, road_of, net, things, place)

    def test_lists_that_are_no_tree(self):
        wrong = (
            [], [None], [None, 0], [None, 0, 1, None], [None, 2, 1], [None, 0, 0], [None, 1, 1],
            [None, None, 1], [0, 0, 1], [None, False, 1], [None, 0, True], [None, 0, 1.0], [None, "0", 1],
        )
        for things in wrong:
            self.refused(NET, things)
        self.refused([[(0, 1)]], [0])
        self.refused([[(0, 1)]], [None])
        for things in lists_for(NO_ROOT):
            self.refused(NO_ROOT, things)

    def test_things_of_any_sort(self):
        for thing in [None, 0, (None, 0, 1), "- 0 1", {0: None, 1: 0, 2: 1}] + oddities():
            self.refused(NET, thing)
            self.refused(NET, [None, 0, thing])
        self.refused([[]], (None,))

    def test_ahead_of_all_else(self):
        for place in (3, -1, 100, None, "0", [], True):
            with self.assertRaises(NoTree):
                road_of(NET, [None, 2, 1], place)
            with self.assertRaises(NoTree):
                road_of(NET, None, place)


if __name__ == "__main__":
    unittest.main()
