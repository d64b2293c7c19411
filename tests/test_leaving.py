import copy
import inspect
import unittest

from ringpop.errors import NoTree, RanOut
from ringpop.leaving import left_tree, regrown_by
from ringpop.popping import marked_rings, pop_out
from ringpop.trees import is_tree
from ringpop.walks import walk_out

from listing import listed_trees, no_trees
from refusing import check_refused
from samples import Dice, fitting_piles, full_net, great_nets, piles_fitting, small_nets
from sharing import check_sharing

NET = [[], [(0, 1), (2, 3)], [(1, 1), (2, 1)]]
TWO_ROOTS = [[], [(0, 2), (1, 9), (2, 3)], [(1, 5), (3, 7)], []]
# Without a root, nets of three places have too many piles to try all.
SMALL = [net for net in small_nets() if [] in net or len(net) < 3] + [TWO_ROOTS]


def bare_places(net, rest):
    return [place for place, row in enumerate(net) if row and not rest[place]]


def great_samples():
    """Nets of up to eight places with a root, with piles thrown for them."""
    dice = Dice(33)
    nets = [net for net in great_nets(2, 8) if [] in net] + [full_net(8, [3]), full_net(8, [0, 6])]
    return [(net, fitting_piles(dice, net, most)) for net in nets for most in (3, 12, 40) for turn in range(4)]


class TestInterface(unittest.TestCase):
    def test_names_of_arguments(self):
        self.assertEqual(str(inspect.signature(left_tree)), "(net, piles)")
        self.assertEqual(str(inspect.signature(regrown_by)), "(net, piles, tree)")


class TestRanOut(unittest.TestCase):
    def runs_out(self, least, function, net, *handed):
        check_refused(self, RanOut, function, net, *handed)
        before = copy.deepcopy((net, handed))
        with self.assertRaises(RanOut) as caught:
            function(net, *handed)
        self.assertEqual(caught.exception.place, least)
        self.assertIs(type(caught.exception.place), int)
        self.assertEqual((net, handed), before)

    def both_run_out(self, least, net, piles):
        self.runs_out(least, left_tree, net, piles)
        for tree in listed_trees(net):
            self.runs_out(least, regrown_by, net, piles, tree)

    def test_at_one_place(self):
        self.both_run_out(1, NET, [[], [], [1]])
        self.both_run_out(2, NET, [[], [0], []])
        self.both_run_out(2, NET, [[], [0, 2], [2, 2]])
        self.both_run_out(1, NET, [[], [2], [1, 1]])
        self.both_run_out(2, NET, [[], [2, 0], [1]])

    def test_at_several_the_least_is_told(self):
        self.both_run_out(1, NET, [[], [], []])
        self.both_run_out(1, NET, [[], [2], [1]])
        self.both_run_out(1, NET, [[], [2, 2], [1, 2, 1]])
        net = [[(0, 1), (3, 1)], [(2, 1)], [(3, 1)], []]
        self.both_run_out(0, net, [[], [], [], []])
        self.both_run_out(1, net, [[3], [], [], []])
        self.both_run_out(2, net, [[3], [2], [], []])
        self.both_run_out(0, net, [[0, 0, 0], [2, 2], [], []])
        self.runs_out(1, left_tree, full_net(8, [0]), [[]] + [[place] * 40 for place in range(1, 8)])

    def test_a_net_without_a_root_always_runs_out(self):
        self.both_run_out(0, [[(0, 1)]], [[0] * 40])
        self.both_run_out(0, [[(0, 1)]], [[]])
        self.both_run_out(1, [[(1, 1)], [(0, 1)]], [[1, 1], [0]])
        self.both_run_out(0, [[(1, 1)], [(0, 1)]], [[1], [0, 0]])

    def test_roots_are_bare_and_do_not_run_out(self):
        self.both_run_out(1, [[], [(0, 1)], []], [[], [], []])
        self.assertEqual(left_tree([[], [(0, 1)], []], [[], [0], []]), [None, 0, None])


class TestLeftTree(unittest.TestCase):
    def test_worked_by_hand(self):
        self.assertEqual(left_tree(NET, [[], [0], [1]]), [None, 0, 1])
        self.assertEqual(left_tree(NET, [[], [2, 0], [1, 2, 1]]), [None, 0, 1])
        self.assertEqual(left_tree(NET, [[], [2, 0, 2], [2, 1, 1, 2]]), [None, 0, 1])
        self.assertEqual(left_tree(TWO_ROOTS, [[], [2, 2], [1, 3], []]), [None, 2, 3, None])
        self.assertEqual(left_tree(TWO_ROOTS, [[], [1, 2], [3, 1], []]), [None, 2, 3, None])
        self.assertEqual(left_tree(TWO_ROOTS, [[], [1, 1, 0], [1, 3], []]), [None, 0, 1, None])

    def test_nets_that_are_all_roots(self):
        for many in range(1, 10):
            net = [[] for place in range(many)]
            self.assertEqual(left_tree(net, [[] for place in range(many)]), [None] * many)
            told = regrown_by(net, [[] for place in range(many)], [None] * many)
            self.assertEqual(told, [[] for place in range(many)])

    def test_all_small_piles(self):
        for net in SMALL:
            for piles in piles_fitting(net, [0, 1, 2]):
                # Popped by walks, which go another way.
                rest = walk_out(piles, [len(net) - 1])[2]
                bare = bare_places(net, rest)
                if bare:
                    with self.assertRaises(RanOut) as caught:
                        left_tree(net, piles)
                    self.assertEqual(caught.exception.place, bare[0])
                else:
                    tree = left_tree(net, piles)
                    self.assertEqual(tree, [pile[0] if pile else None for pile in rest])
                    self.assertTrue(is_tree(net, tree))

    def test_beyond_the_bounds(self):
        net = full_net(12, [0])
        piles = [[]] + [[place] * 50 + [place - 1, place] for place in range(1, 12)]
        self.assertEqual(left_tree(net, piles), [None] + list(range(11)))
        star = [None] + [0] * 11
        self.assertEqual(regrown_by(net, piles, star), [[]] + [[place] * 50 + [0, place] for place in range(1, 12)])

    def test_all_stays_and_is_not_shared(self):
        for net, piles in great_samples():
            if not bare_places(net, pop_out(piles)[1]):
                check_sharing(self, left_tree, net, piles)
        check_sharing(self, left_tree, NET, [[], [2, 0], [1, 2, 1]])


class TestRegrownBy(unittest.TestCase):
    def test_worked_by_hand(self):
        piles = [[], [1, 2, 2, 1], [1, 3, 1], []]
        # 1 is popped alone, then 1 and 2 together: 1 loses two arrows, and 2 one.
        self.assertEqual(left_tree(TWO_ROOTS, piles), [None, 2, 3, None])
        self.assertEqual(regrown_by(TWO_ROOTS, piles, [None, 0, 1, None]), [[], [1, 2, 0, 1], [1, 1, 1], []])
        self.assertEqual(regrown_by(TWO_ROOTS, piles, [None, 0, 3, None]), [[], [1, 2, 0, 1], [1, 3, 1], []])
        self.assertEqual(regrown_by(TWO_ROOTS, piles, [None, 2, 3, None]), piles)

    def regrows(self, net, piles, tree):
        rings, rest = pop_out(piles)
        regrown = regrown_by(net, piles, tree)
        expected = copy.deepcopy(piles)
        for place, end in enumerate(tree):
            if end is not None:
                expected[place][len(piles[place]) - len(rest[place])] = end
        self.assertEqual(regrown, expected)
        again, left = pop_out(regrown, [1, 2, 3])
        self.assertEqual(marked_rings(again), marked_rings(rings))
        self.assertEqual([pile[1:] for pile in left], [pile[1:] for pile in rest])
        self.assertEqual(left_tree(net, regrown), tree)
        self.assertEqual(regrown_by(net, regrown, left_tree(net, piles)), piles)

    def test_all_small_piles_by_all_trees(self):
        for net in SMALL:
            trees = listed_trees(net)
            for piles in piles_fitting(net, [1, 2]):
                if trees and not bare_places(net, pop_out(piles)[1]):
                    for tree in trees:
                        self.regrows(net, piles, tree)

    def test_great_piles(self):
        tried = 0
        for net, piles in great_samples():
            if not bare_places(net, pop_out(piles)[1]):
                # A tree of the net, left by the same piles with their arrows turned upside down.
                other = [pile[::-1] for pile in piles]
                if not bare_places(net, pop_out(other)[1]):
                    self.regrows(net, piles, left_tree(net, other))
                    tried += 1
        self.assertGreater(tried, 20)

    def test_full_piles(self):
        net = full_net(2, [0])
        piles = [[], [1] * 39 + [0]]
        self.assertEqual(regrown_by(net, piles, [None, 0]), piles)
        net = [[], [], [(0, 1), (1, 1), (2, 1)]]
        self.assertEqual(regrown_by(net, [[], [], [2] * 39 + [0]], [None, None, 1]), [[], [], [2] * 39 + [1]])
        self.assertEqual(regrown_by(net, [[], [], [0] * 40], [None, None, 1]), [[], [], [1] + [0] * 39])

    def test_all_stays_and_is_not_shared(self):
        for net, piles in great_samples():
            if not bare_places(net, pop_out(piles)[1]):
                check_sharing(self, regrown_by, net, piles, left_tree(net, piles))
        check_sharing(self, regrown_by, TWO_ROOTS, [[], [1, 2, 2, 1], [1, 3, 1], []], [None, 0, 1, None])
        check_sharing(self, regrown_by, [[], []], [[], []], [None, None])


class TestNoTree(unittest.TestCase):
    def refused(self, net, piles, things):
        before = copy.deepcopy(piles)
        check_refused(self, NoTree, regrown_by, net, piles, things)
        self.assertEqual(piles, before)

    def test_things_of_any_sort(self):
        for things in no_trees(TWO_ROOTS):
            self.refused(TWO_ROOTS, [[], [2], [3], []], things)

    def test_ahead_of_ran_out(self):
        for things in no_trees(TWO_ROOTS):
            self.refused(TWO_ROOTS, [[], [], [], []], things)
            self.refused(TWO_ROOTS, [[], [2], [1], []], things)

    def test_nets_without_a_tree(self):
        for things in ([0], [None], [1, 0], [None, 2, 1], []):
            self.refused([[(0, 1)]], [[0]], things)
            self.refused([[(1, 1)], [(0, 1)]], [[], []], things)
            self.refused([[], [(2, 1)], [(1, 1)]], [[], [2], [1]], things)


if __name__ == "__main__":
    unittest.main()
