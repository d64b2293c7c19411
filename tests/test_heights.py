import inspect
import math
import time
import unittest

from ringpop.counts import count_of, many_of
from ringpop.errors import TooGreat
from ringpop.heights import left_by_all
from ringpop.trees import weight_of
from ringpop.walks import walk_out

from listing import listed_trees
from refusing import check_refused
from samples import Dice, full_net, piles_fitting, small_nets
from sharing import check_sharing

TWO_ROOTS = [[], [(0, 2), (1, 9), (2, 3)], [(1, 5), (3, 7)], []]
GREAT = 10 ** 30 - 1
# Nets of eight places by the ends of their arrows, with just as many trees.
ENDS = {
    3999: [
        [], [0, 2, 3, 4, 7], [0, 1, 5, 6], [2, 4, 5, 7], [0, 1, 7], [1, 3, 6, 7], [0, 2, 4, 5, 7], [1, 5, 6],
    ],
    4000: [
        [], [], [0, 1, 4, 6, 7], [1, 2, 4, 5, 7], [0, 2, 5, 7], [0, 1, 3], [1, 3, 4, 5, 7], [1, 2, 3, 5],
    ],
    4001: [
        [], [], [1, 3, 7], [0, 1, 2, 6, 7], [1, 2, 3, 5, 7], [0, 2, 3, 4, 6, 7], [1, 2, 5, 7], [1, 2, 3, 6],
    ],
}


def net_by_sizes(sizes):
    """A root, and behind it a place for each size with an arrow to the root and so many in all."""
    many = len(sizes) + 1
    return [[]] + [[(to, to + place + 2) for to in range(size)] for place, size in enumerate(sizes)] + [
        [] for place in range(8 - many)
    ]


def net_by_ends(ends):
    return [[(to, 1) for to in row] for row in ends]


def pile_weight(net, piles):
    return math.prod(dict(row)[to] for row, pile in zip(net, piles) for to in pile)


def product_of_sums(net, height):
    return math.prod(sum(weight for to, weight in row) ** height for row in net if row)


# Each of the piles is walked out, where the program pops.
def left_otherwise(net, height):
    trees = listed_trees(net)
    many = [0 for tree in trees]
    out = 0
    for piles in piles_fitting(net, [height]):
        tops = [pile[0] if pile else None for pile in walk_out(piles)[2]]
        if tops in trees:
            many[trees.index(tops)] += pile_weight(net, piles)
        else:
            out += pile_weight(net, piles)
    return (list(zip(trees, many)), out)


def many_piles(net, height):
    return math.prod(len(row) ** height for row in net if row)


class TestInterface(unittest.TestCase):
    def test_names_of_arguments(self):
        self.assertEqual(str(inspect.signature(left_by_all)), "(net, height)")

    def test_kinds(self):
        told = left_by_all(TWO_ROOTS, 2)
        self.assertIs(type(told), tuple)
        self.assertEqual([type(part) for part in told], [list, int])
        for pair in told[0]:
            self.assertIs(type(pair), tuple)
            self.assertEqual([type(part) for part in pair], [list, int])


class TestWorkedByHand(unittest.TestCase):
    def test_height_0(self):
        # The one set of piles is bare and weighs 1.
        trees = [[None, 0, 1, None], [None, 0, 3, None], [None, 2, 3, None]]
        self.assertEqual(left_by_all(TWO_ROOTS, 0), ([(tree, 0) for tree in trees], 1))
        self.assertEqual(left_by_all([[], [(0, 7)]], 0), ([([None, 0], 0)], 1))
        self.assertEqual(left_by_all([[(0, 7)]], 0), ([], 1))
        self.assertEqual(left_by_all(full_net(8, []), 0), ([], 1))

    def test_height_1(self):
        # Nothing may be lost: just the trees' own weights, and the other piles run out.
        left = [([None, 0, 1, None], 10), ([None, 0, 3, None], 14), ([None, 2, 3, None], 21)]
        self.assertEqual(left_by_all(TWO_ROOTS, 1), (left, 14 * 12 - 45))
        self.assertEqual(left_by_all([[], [(0, 7)]], 1), ([([None, 0], 7)], 0))
        self.assertEqual(left_by_all([[], [(0, 7), (1, 5)]], 1), ([([None, 0], 7)], 5))

    def test_one_place_with_arrows(self):
        net = [[], [(0, 7), (1, 5)]]
        self.assertEqual(left_by_all(net, 2), ([([None, 0], 7 * 12 + 5 * 7)], 25))
        self.assertEqual(left_by_all(net, 3), ([([None, 0], 12 ** 3 - 5 ** 3)], 125))
        self.assertEqual(left_by_all(net, 8), ([([None, 0], 12 ** 8 - 5 ** 8)], 5 ** 8))
        net = [[(0, 5), (1, 7), (2, 11)], [], []]
        left = [([1, None, None], 7 * 23 + 5 * 7), ([2, None, None], 11 * 23 + 5 * 11)]
        self.assertEqual(left_by_all(net, 2), (left, 25))

    def test_one_arrow_at_each_place(self):
        chain = [[]] + [[(place - 1, place + 1)] for place in range(1, 8)]
        tree = [None, 0, 1, 2, 3, 4, 5, 6]
        for height in (1, 2, 39, 40):
            self.assertEqual(left_by_all(chain, height), ([(tree, math.factorial(8) ** height)], 0))
        ring = [[(1, 2)], [(2, 3)], [(0, 5)], []]
        for height in (0, 1, 40):
            self.assertEqual(left_by_all(ring, height), ([], 30 ** height))

    def test_a_net_that_is_all_roots(self):
        for many in range(1, 9):
            for height in (0, 1, 2, 40):
                net = [[] for place in range(many)]
                self.assertEqual(left_by_all(net, height), ([([None] * many, 1)], 0))

    def test_nets_without_a_tree_and_without_roots(self):
        self.assertEqual(left_by_all([[(0, 3)]], 40), ([], 3 ** 40))
        self.assertEqual(left_by_all([[(0, 3), (1, 4)], [(0, 5), (1, 6)]], 4), ([], 77 ** 4))
        self.assertEqual(left_by_all([[], [(2, 3)], [(1, 2), (2, 4)]], 5), ([], 18 ** 5))
        self.assertEqual(left_by_all([[], [(0, 2), (1, 3)], [(2, 5)]], 3), ([], 25 ** 3))


class TestAgainstAListing(unittest.TestCase):
    def test_small_nets(self):
        for net in small_nets():
            for height in range(5):
                if many_piles(net, height) <= 500:
                    self.assertEqual(left_by_all(net, height), left_otherwise(net, height))

    def test_greater_nets(self):
        nets = [TWO_ROOTS, net_by_sizes([2, 3, 2, 2, 2]), net_by_sizes([3, 3, 4, 2]), full_net(4, [1], GREAT)]
        nets.append([[(0, 1), (1, 2), (3, 4)], [(0, 2), (3, 5)], [], [(0, 2)]])
        for net in nets:
            for height in range(4):
                if many_piles(net, height) <= 500:
                    self.assertEqual(left_by_all(net, height), left_otherwise(net, height))


class TestShares(unittest.TestCase):
    def told_by_weights(self, net, height):
        left, out = left_by_all(net, height)
        trees = [tree for tree, many in left]
        self.assertEqual(trees, listed_trees(net))
        whole = sum(many for tree, many in left)
        for tree, many in left:
            self.assertEqual(many * count_of(net), whole * weight_of(net, tree))
        self.assertEqual(whole + out, product_of_sums(net, height))

    def test_small_nets(self):
        for net in small_nets():
            for height in (0, 1, 2, 3, 4, 5, 8, 40):
                if many_piles(net, height) <= 500:
                    self.told_by_weights(net, height)

    def test_weights_of_thirty_figures(self):
        dice = Dice(41)
        for ends in ([[], [0, 1, 2], [0, 1]], [[1, 2], [0, 1, 3], [0, 1], []], [[0, 1], [0, 1, 3], [3], []]):
            for turn in range(3):
                net = [[(to, dice.weight(30)) for to in row] for row in ends]
                for height in (0, 1, 2, 3):
                    if many_piles(net, height) <= 500:
                        self.told_by_weights(net, height)
        net = [[], [(0, GREAT), (1, GREAT - 1)]]
        out = (GREAT - 1) ** 8
        self.assertEqual(left_by_all(net, 8), ([([None, 0], (2 * GREAT - 1) ** 8 - out)], out))

    def test_eight_places(self):
        for sizes in ([5, 5, 5, 4], [2] * 7, [2, 2, 2, 2, 3, 3, 3], [1, 1, 1, 1, 7, 8, 8]):
            self.told_by_weights(net_by_sizes(sizes), 1)
        # Two arrows at one place: to the next one, round the ring, and to the root.
        net = [[(1, 2), (7, 3)]] + [[((place + 1) % 7, place + 1)] for place in range(1, 7)] + [[]]
        for height in range(9):
            self.told_by_weights(net, height)

    def test_beyond_the_bounds(self):
        chain = [[]] + [[(place - 1, 2)] for place in range(1, 12)]
        self.assertEqual(left_by_all(chain, 60), ([([None] + list(range(11)), 2 ** 660)], 0))
        self.assertEqual(left_by_all([[(0, 10 ** 50)]], 45), ([], 10 ** 2250))


class TestTooGreat(unittest.TestCase):
    def refused(self, net, height):
        check_refused(self, TooGreat, left_by_all, net, height)

    def test_five_hundred_piles(self):
        for sizes, many in (([5, 5, 5, 4], 500), ([2, 5, 5, 5, 2], 500), ([7, 7, 5, 2], 490), ([6, 3, 3, 3, 3], 486)):
            net = net_by_sizes(sizes)
            self.assertEqual(many_piles(net, 1), many)
            left, out = left_by_all(net, 1)
            self.assertEqual(sum(pair[1] for pair in left) + out, product_of_sums(net, 1))
            self.assertEqual(left, [(tree, weight_of(net, tree)) for tree in listed_trees(net)])

    def test_just_above_five_hundred_piles(self):
        for sizes, many in (([8, 7, 3, 3], 504), ([8, 8, 8], 512), ([2, 2, 2, 2, 2, 4, 4], 512), ([3, 5, 7, 5], 525)):
            net = net_by_sizes(sizes)
            self.assertEqual(many_piles(net, 1), many)
            self.refused(net, 1)

    def test_by_their_heights(self):
        net = [[], [(0, 7), (1, 5)]]
        self.assertEqual(left_by_all(net, 8)[1], 5 ** 8)
        for height in (9, 10, 20, 39, 40):
            self.refused(net, height)
        net = [[(0, 3), (1, 4)], [(0, 5), (1, 6)]]
        self.assertEqual(left_by_all(net, 4), ([], 77 ** 4))
        self.refused(net, 5)
        self.assertEqual(left_by_all(full_net(3, []), 1), ([], 27))
        self.refused(full_net(3, []), 2)

    def test_four_thousand_trees(self):
        for many in (3999, 4000):
            net = net_by_ends(ENDS[many])
            self.assertEqual(many_of(net), many)
            left, out = left_by_all(net, 0)
            self.assertEqual(left, [(tree, 0) for tree in listed_trees(net)])
            self.assertEqual(out, 1)

    def test_more_than_four_thousand_trees(self):
        net = net_by_ends(ENDS[4001])
        self.assertEqual(many_of(net), 4001)
        self.refused(net, 0)
        # Seven places, each with arrows to all below it.
        net = [[(to, 1) for to in range(place)] for place in range(8)]
        self.assertEqual(many_of(net), 5040)
        self.refused(net, 0)
        self.refused(full_net(8, [0]), 0)
        self.refused(full_net(8, [7], GREAT), 0)

    def test_trees_are_counted_not_weighed(self):
        self.assertEqual(left_by_all([[], [(0, 5000)]], 1), ([([None, 0], 5000)], 0))
        self.assertEqual(left_by_all([[], [(0, 10 ** 29)], [(0, 5)]], 0), ([([None, 0, 0], 0)], 1))

    def test_told_quickly(self):
        start = time.monotonic()
        for height in (1, 2, 39, 40):
            self.refused(full_net(8, []), height)
            self.refused(full_net(8, [0]), height)
            self.refused(full_net(8, [3], GREAT), height)
        self.refused(full_net(8, [0]), 0)
        self.assertEqual(left_by_all(full_net(8, []), 0), ([], 1))
        # A dead end at the last place: no tree, though the others could be joined in many ways.
        for many in (8, 12):
            net = full_net(many, [0])[:-1] + [[(many - 1, 1)]]
            self.assertEqual(left_by_all(net, 0), ([], 1))
        self.assertEqual(left_by_all(net_by_ends(ENDS[4000]), 0)[1], 1)
        self.assertLess(time.monotonic() - start, 5)


class TestSharing(unittest.TestCase):
    def test_all_stays_and_is_not_shared(self):
        for net in small_nets()[::7] + [TWO_ROOTS, [[]], [[], []], net_by_sizes([2, 2, 2, 2])]:
            for height in (0, 1, 2):
                if many_piles(net, height) <= 500:
                    check_sharing(self, left_by_all, net, height)


if __name__ == "__main__":
    unittest.main()
