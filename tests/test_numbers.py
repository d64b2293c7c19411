import inspect
import time
import unittest

from ringpop.counts import many_of
from ringpop.errors import NoNumber, NoTree
from ringpop.numbers import number_of, tree_at, trees_of
from ringpop.trees import is_tree

from listing import listed_trees, no_trees
from oddities import oddities
from refusing import check_refused
from samples import Dice, full_net, great_nets, small_nets
from sharing import check_sharing

TWO_ROOTS = [[], [(0, 2), (1, 9), (2, 3)], [(1, 5), (3, 7)], []]
NO_TREES = ([[(0, 1)]], [[(1, 1)], [(0, 1)]], [[], [(2, 1)], [(1, 1)]], full_net(8, []))
# Each place has arrows to the next three, round the ring of eight places.
SPARSE = [[]] + [sorted(((place + step) % 8, place + step) for step in (1, 2, 3)) for place in range(1, 8)]
GREAT = 10 ** 30 - 1


class TestInterface(unittest.TestCase):
    def test_names_of_arguments(self):
        self.assertEqual(str(inspect.signature(tree_at)), "(net, number)")
        self.assertEqual(str(inspect.signature(number_of)), "(net, tree)")


class TestSmallNets(unittest.TestCase):
    def tell_each_other(self, net):
        trees = listed_trees(net)
        self.assertEqual([tree_at(net, number) for number in range(len(trees))], trees)
        self.assertEqual([number_of(net, tree) for tree in trees], list(range(len(trees))))
        self.assertEqual(many_of(net), len(trees))
        self.assertEqual(trees_of(net), trees)

    def test_worked_by_hand(self):
        trees = [[None, 0, 1, None], [None, 0, 3, None], [None, 2, 3, None]]
        self.assertEqual([tree_at(TWO_ROOTS, number) for number in (0, 1, 2)], trees)
        self.assertEqual([number_of(TWO_ROOTS, tree) for tree in trees], [0, 1, 2])

    def test_all_roots(self):
        for many in range(1, 10):
            net = [[] for place in range(many)]
            self.assertEqual(tree_at(net, 0), [None] * many)
            self.assertEqual(number_of(net, [None] * many), 0)

    def test_each_number_and_each_tree_in_turn(self):
        for net in small_nets() + great_nets(4, 4) + [full_net(4, [2], GREAT), full_net(5, [0, 4])]:
            self.tell_each_other(net)

    def test_a_net_of_eight_places_with_few_trees(self):
        self.tell_each_other(SPARSE)

    def test_whole_numbers_and_lists_are_told(self):
        for number in range(3):
            tree = tree_at(TWO_ROOTS, number)
            self.assertIs(type(tree), list)
            self.assertIs(type(number_of(TWO_ROOTS, tree)), int)

    def test_all_stays_and_is_not_shared(self):
        for net in great_nets(1, 8) + [TWO_ROOTS]:
            for number in range(min(many_of(net), 3)):
                check_sharing(self, tree_at, net, number)
                check_sharing(self, number_of, net, tree_at(net, number))


class TestEightPlaces(unittest.TestCase):
    def tells(self, net, number, tree):
        self.assertEqual(tree_at(net, number), tree)
        self.assertEqual(number_of(net, tree), number)

    def test_the_first_and_the_last(self):
        self.tells(full_net(8, [0]), 0, [None, 0, 0, 0, 0, 0, 0, 0])
        self.tells(full_net(8, [0]), 262143, [None, 7, 7, 7, 7, 7, 7, 0])
        self.tells(full_net(8, [7], GREAT), 0, [1, 2, 3, 4, 5, 6, 7, None])
        self.tells(full_net(8, [7], GREAT), 262143, [7, 7, 7, 7, 7, 7, 7, None])

    def test_where_the_first_end_changes(self):
        # A quarter of the trees have an arrow from 1 to the root, an eighth one from
        # 1 to any other place.
        net = full_net(8, [0])
        self.tells(net, 65535, [None, 0, 7, 7, 7, 7, 7, 1])
        self.tells(net, 65536, [None, 2, 0, 0, 0, 0, 0, 0])
        self.tells(net, 65536 + 32767, [None, 2, 7, 7, 7, 7, 7, 0])
        self.tells(net, 65536 + 32768, [None, 3, 0, 0, 0, 0, 0, 0])

    def test_some_between_in_order(self):
        dice = Dice(11)
        for net in great_nets(6, 8) + [full_net(8, [5]), full_net(8, [1, 6], 10 ** 29)]:
            many = many_of(net)
            asked = sorted({dice.throw(many) for turn in range(12)}) if many else []
            trees = [tree_at(net, number) for number in asked]
            self.assertEqual(trees, sorted(trees))
            for number, tree in zip(asked, trees):
                self.assertTrue(is_tree(net, tree))
                self.assertEqual(number_of(net, tree), number)
                if number + 1 < many:
                    self.assertLess(tree, tree_at(net, number + 1))

    def test_told_quickly(self):
        net = full_net(8, [0], GREAT)
        start = time.monotonic()
        for number in range(0, 262144, 8192):
            self.assertEqual(number_of(net, tree_at(net, number)), number)
        # All trees ahead of each can't be gone through in this time.
        self.assertLess(time.monotonic() - start, 10)

    def test_weights_are_all_the_same(self):
        heavy = [[(to, weight * GREAT + to) for to, weight in row] for row in SPARSE]
        for number in range(0, many_of(SPARSE), 50):
            self.tells(heavy, number, tree_at(SPARSE, number))

    def test_beyond_the_bounds(self):
        net = full_net(12, [0], 10 ** 50)
        self.tells(net, 0, [None] + [0] * 11)
        self.tells(net, 12 ** 10 - 1, [None] + [11] * 10 + [0])
        self.assertEqual(number_of(net, tree_at(net, 12 ** 9 + 12345)), 12 ** 9 + 12345)
        check_refused(self, NoNumber, tree_at, net, 12 ** 10)


class TestNoNumber(unittest.TestCase):
    def refused(self, net, number):
        check_refused(self, NoNumber, tree_at, net, number)

    def test_out_of_bounds(self):
        for net in [TWO_ROOTS, [[]], full_net(8, [0]), SPARSE] + great_nets(1, 8):
            many = many_of(net)
            for number in (-1, -2, -many - 1, many, many + 1, 10 ** 29, GREAT, -10 ** 29, -GREAT):
                self.refused(net, number)

    def test_every_number_where_there_is_no_tree(self):
        for net in NO_TREES:
            for number in (0, 1, 2, 7, -1, GREAT):
                self.refused(net, number)

    def test_things_of_any_sort(self):
        # These have trees of the numbers 0, 1 and 2.
        for net in (TWO_ROOTS, full_net(3, [1])):
            for thing in [None, 0.0, 1.0, 2.0, "0", "1", [], [0], [None], (), (0,), (0, 1)] + oddities():
                self.refused(net, thing)
        for thing in [None, 0.0, "0", [], [0], ()] + oddities():
            self.refused([[]], thing)
            self.refused(NO_TREES[1], thing)


class TestNoTree(unittest.TestCase):
    def refused(self, net, things):
        check_refused(self, NoTree, number_of, net, things)

    def test_things_of_any_sort(self):
        for net in (TWO_ROOTS, [[]], [[], [(0, 1)]]):
            for things in no_trees(net):
                self.refused(net, things)

    def test_where_there_is_no_tree(self):
        for things in ([0], [None], [1, 0], [None, 2, 1], [None, None], [1] * 8, [None] * 8, []):
            for net in NO_TREES:
                self.refused(net, things)


if __name__ == "__main__":
    unittest.main()
