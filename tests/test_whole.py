"""The promise over the whole program: each way that leads through it comes to the same."""

import unittest

from ringpop.changes import rooted_at
from ringpop.counts import count_of, many_of, shares_of
from ringpop.errors import RanOut
from ringpop.exchanges import exchange_in, exchanges_between, exchanges_of
from ringpop.heights import left_by_all
from ringpop.leaving import left_tree, regrown_by
from ringpop.nets import net_of
from ringpop.numbers import number_of, tree_at
from ringpop.piles import piles_of, pop_ring, rings_of, tops_of
from ringpop.popping import marked_rings, pop_out, pop_rounds, put_back
from ringpop.texts import read_net, read_piles, read_tree, show_net, show_piles, show_tree
from ringpop.trees import is_tree, weight_of
from ringpop.walks import walk_out

from listing import listed_trees
from samples import Dice, fitting_piles, full_net, great_nets, rootless_nets, small_nets
from sharing import lists_within

NET_TEXT = "-; 0*2 1*9 2*3; 1*5 3*7; -"
PILES_TEXT = "-; 1 2 2 1; 1 3 1; -"
# Nets with a root, and piles for them by how many arrows a pile has at the most.
NETS = [net for net in small_nets() + great_nets(4, 8) if [] in net] + [full_net(8, [0]), full_net(8, [2, 5], 10 ** 29)]


class TestASampleByHand(unittest.TestCase):
    def test_from_texts_and_back(self):
        net = read_net(NET_TEXT)
        piles = read_piles(net, PILES_TEXT)
        rings, rest = pop_out(piles)
        self.assertEqual(rings, [[1], [1, 2]])
        self.assertEqual(show_piles(rest), "-; 2 1; 3 1; -")
        self.assertEqual(show_piles(put_back(rest, rings)), PILES_TEXT)
        tree = left_tree(net, piles)
        self.assertEqual(show_tree(tree), "- 2 3 -")
        self.assertEqual((number_of(net, tree), many_of(net), weight_of(net, tree), count_of(net)), (2, 3, 21, 45))
        other = read_tree(net, "- 0 1 -")
        self.assertEqual(exchanges_between(net, tree, other), [(1, 0), (2, 1)])
        regrown = regrown_by(net, piles, other)
        self.assertEqual(show_piles(regrown), "-; 1 2 0 1; 1 1 1; -")
        self.assertEqual(marked_rings(pop_out(regrown)[0]), marked_rings(rings))
        self.assertEqual(left_tree(net, regrown), other)
        self.assertEqual(show_net(net), NET_TEXT)


class TestPopping(unittest.TestCase):
    def same_by_all_ways(self, dice, piles):
        rings, rest = pop_out(piles)
        marked = marked_rings(rings)
        self.assertEqual(rings_of(tops_of(rest)), [])
        self.assertEqual(put_back(rest, rings), piles)
        for turn in range(3):
            again = pop_out(piles, dice.order(20))
            self.assertEqual((marked_rings(again[0]), again[1]), (marked, rest))
            self.assertEqual(put_back(again[1], again[0]), piles)
            walked = walk_out(piles, [dice.throw(len(piles)) for start in range(turn)])
            self.assertEqual((marked_rings(walked[1]), walked[2]), (marked, rest))
            self.assertEqual(put_back(walked[2], walked[1]), piles)
        by_rounds = [ring for found in pop_rounds(piles) for ring in found]
        self.assertEqual(marked_rings(by_rounds), marked)
        left = piles
        for ring in by_rounds:
            left = pop_ring(left, ring)
        self.assertEqual(left, rest)

    def leads_to_every_tree(self, net, piles, other):
        tree = left_tree(net, piles)
        self.assertEqual(tree, tops_of(pop_out(piles, [2, 1])[1]))
        self.assertTrue(is_tree(net, tree))
        self.assertEqual(tree_at(net, number_of(net, tree)), tree)
        made = tree
        told = exchanges_between(net, tree, other)
        for place, to in told:
            self.assertIn((place, to), exchanges_of(net, made))
            made = exchange_in(net, made, place, to)
        self.assertEqual(made, other)
        self.assertEqual(len(told), len([1 for one, end in zip(tree, other) if one != end]))
        regrown = regrown_by(net, piles, made)
        self.assertEqual(marked_rings(pop_out(regrown)[0]), marked_rings(pop_out(piles)[0]))
        self.assertEqual(left_tree(net, regrown), other)
        self.assertEqual(regrown_by(net, regrown, tree), piles)
        self.assertEqual(read_tree(net, show_tree(made)), other)
        self.assertEqual(read_piles(net, show_piles(regrown)), piles_of(net, regrown))

    def test_samples(self):
        dice = Dice(61)
        left = 0
        for first in NETS:
            net = read_net(show_net(net_of(first)))
            self.assertEqual(net, first)
            for most in (2, 9, 40):
                thrown = fitting_piles(dice, net, most)
                piles = read_piles(net, show_piles(piles_of(net, thrown)))
                self.assertEqual(piles, thrown)
                self.same_by_all_ways(dice, piles)
                bare = [place for place, row in enumerate(net) if row and not pop_out(piles)[1][place]]
                if bare:
                    with self.assertRaises(RanOut) as caught:
                        left_tree(net, piles)
                    self.assertEqual(caught.exception.place, bare[0])
                else:
                    left += 1
                    self.leads_to_every_tree(net, piles, tree_at(net, dice.throw(many_of(net))))
        self.assertGreater(left, 100)


class TestShares(unittest.TestCase):
    def test_all_piles_of_a_height(self):
        for ends, heights in (("-; 0*2 1*9 2*3; 1*5 3*7; -", (0, 1, 2, 3)), ("-; 0 2*4; 1*3 2", (0, 1, 2, 3, 4))):
            net = read_net(ends)
            for height in heights:
                left, out = left_by_all(net, height)
                self.assertEqual([tree for tree, many in left], listed_trees(net))
                whole = sum(many for tree, many in left)
                for number, (tree, many) in enumerate(left):
                    self.assertEqual(number_of(net, tree), number)
                    self.assertEqual(many * count_of(net), whole * weight_of(net, tree))

    def test_a_place_by_its_arrows(self):
        # The share of an arrow is that of the trees that have it, of all piles too.
        net = read_net("-; 0*2 1*9 2*3; 1*5 3*7; -")
        left, out = left_by_all(net, 3)
        whole = sum(many for tree, many in left)
        for place in (1, 2):
            for to, many in shares_of(net, place):
                by_piles = sum(sum_of for tree, sum_of in left if tree[place] == to)
                self.assertEqual(by_piles * count_of(net), whole * many)


class TestCounts(unittest.TestCase):
    def test_a_number_for_each_tree(self):
        for net in [net for net in NETS if len(net) <= 4]:
            trees = [tree_at(net, number) for number in range(many_of(net))]
            self.assertEqual(trees, listed_trees(net))
            self.assertEqual([number_of(net, tree) for tree in trees], list(range(len(trees))))
            self.assertEqual(sum(weight_of(net, tree) for tree in trees), count_of(net))
            plain = [[(to, 1) for to, weight in row] for row in net]
            self.assertEqual(count_of(plain), len(trees))

    def test_the_balance_of_roots(self):
        for net in rootless_nets():
            rooted = [count_of(rooted_at(net, place)) for place in range(len(net))]
            for place, row in enumerate(net):
                into = sum(rooted[at] * dict(other).get(place, 0) for at, other in enumerate(net))
                self.assertEqual(into, rooted[place] * sum(weight for to, weight in row))


class TestSharing(unittest.TestCase):
    def test_no_answer_shares_a_list_with_that_of_another_function(self):
        net = read_net(NET_TEXT)
        piles = read_piles(net, PILES_TEXT)
        tree = left_tree(net, piles)
        told = [net, piles, tree, net_of(net), piles_of(net, piles), tops_of(piles), rings_of(tops_of(piles))]
        told += [pop_out(piles), walk_out(piles), pop_rounds(piles), put_back(piles, [[1]]), pop_ring(piles, [1])]
        told += [rooted_at(net, 1), shares_of(net, 1), tree_at(net, 2), exchange_in(net, tree, 1, 2)]
        told += [exchanges_of(net, tree), exchanges_between(net, tree, [None, 0, 1, None])]
        told += [regrown_by(net, piles, tree), left_by_all(net, 1), left_by_all(net, 1), read_tree(net, "- 2 3 -")]
        found = [thing for answer in told for thing in lists_within(answer)]
        self.assertEqual(len({id(thing) for thing in found}), len(found))


if __name__ == "__main__":
    unittest.main()
