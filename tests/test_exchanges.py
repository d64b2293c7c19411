import copy
import inspect
import unittest

from ringpop.counts import many_of
from ringpop.errors import MakesRing, NoArrow, NoTree
from ringpop.exchanges import exchange_in, exchanges_between, exchanges_of
from ringpop.numbers import tree_at

from listing import listed_trees, no_trees, settles
from oddities import no_places
from refusing import check_refused
from samples import Dice, full_net, great_nets, small_nets
from sharing import check_sharing

TWO_ROOTS = [[], [(0, 2), (1, 9), (2, 3)], [(1, 5), (3, 7)], []]
NETS = small_nets() + great_nets(4, 4) + [full_net(4, [2]), full_net(4, [0, 3]), TWO_ROOTS]
FULL = full_net(8, [0])
STAR = [None, 0, 0, 0, 0, 0, 0, 0]
CHAIN = [None, 0, 1, 2, 3, 4, 5, 6]
GREAT = 10 ** 30 - 1


def with_end(tree, place, to):
    changed = list(tree)
    changed[place] = to
    return changed


def trees_thrown(dice, net, many):
    return [tree_at(net, dice.throw(many_of(net))) for turn in range(many)] if many_of(net) else []


class TestInterface(unittest.TestCase):
    def test_names_of_arguments(self):
        self.assertEqual(str(inspect.signature(exchange_in)), "(net, tree, place, to)")
        self.assertEqual(str(inspect.signature(exchanges_of)), "(net, tree)")
        self.assertEqual(str(inspect.signature(exchanges_between)), "(net, one, other)")


class TestExchangeIn(unittest.TestCase):
    def closes(self, ring, net, tree, place, to):
        before = copy.deepcopy((net, tree))
        check_refused(self, MakesRing, exchange_in, net, tree, place, to)
        with self.assertRaises(MakesRing) as caught:
            exchange_in(net, tree, place, to)
        self.assertEqual(caught.exception.ring, ring)
        self.assertIs(type(caught.exception.ring), list)
        self.assertEqual((net, tree), before)

    def test_another_end(self):
        self.assertEqual(exchange_in(TWO_ROOTS, [None, 0, 3, None], 1, 2), [None, 2, 3, None])
        self.assertEqual(exchange_in(TWO_ROOTS, [None, 0, 3, None], 2, 1), [None, 0, 1, None])
        self.assertEqual(exchange_in(FULL, STAR, 7, 1), [None, 0, 0, 0, 0, 0, 0, 1])
        self.assertEqual(exchange_in(FULL, CHAIN, 1, 0), CHAIN)
        self.assertEqual(exchange_in(FULL, CHAIN, 7, 0), [None, 0, 1, 2, 3, 4, 5, 0])
        self.assertEqual(exchange_in(FULL, CHAIN, 4, 1), [None, 0, 1, 2, 1, 4, 5, 6])

    def test_the_end_that_is_there_already(self):
        for net in NETS:
            for tree in listed_trees(net):
                for place, end in enumerate(tree):
                    if end is not None:
                        self.assertEqual(exchange_in(net, tree, place, end), tree)
                        self.assertIsNot(exchange_in(net, tree, place, end), tree)

    def test_an_arrow_to_the_place_itself(self):
        self.closes([1], TWO_ROOTS, [None, 2, 3, None], 1, 1)
        for place in range(1, 8):
            self.closes([place], FULL, CHAIN, place, place)
            self.closes([place], FULL, STAR, place, place)

    def test_a_ring_is_told_along_its_arrows_with_the_least_place_first(self):
        self.closes([1, 2], TWO_ROOTS, [None, 2, 3, None], 2, 1)
        self.closes([1, 2], TWO_ROOTS, [None, 0, 1, None], 1, 2)
        # From 1 to 7 and then down the chain.
        self.closes([1, 7, 6, 5, 4, 3, 2], FULL, CHAIN, 1, 7)
        self.closes([2, 5, 4, 3], FULL, CHAIN, 2, 5)
        self.closes([3, 4], FULL, CHAIN, 3, 4)
        rising = [None, 2, 3, 4, 5, 6, 7, 0]
        self.closes([1, 2, 3, 4, 5, 6, 7], FULL, rising, 7, 1)
        self.closes([3, 4, 5], FULL, rising, 5, 3)
        # The least place of the ring lies neither at its changed place nor at the new end.
        winding = [None, 5, 0, 1, 3, 0, 4, 0]
        self.closes([1, 5, 6, 4, 3], FULL, winding, 5, 6)
        self.closes([1, 5, 4, 3], FULL, winding, 5, 4)
        self.closes([1, 3], FULL, winding, 1, 3)

    def test_what_hangs_on_a_ring_is_no_part_of_it(self):
        # 3 leads to 2, which then is on the ring, and the root is beyond it.
        self.closes([1, 2], FULL, [None, 0, 1, 2, 3, 1, 0, 2], 1, 2)

    def tried(self, net, tree, place, to):
        changed = with_end(tree, place, to)
        if settles(net, changed):
            self.assertEqual(exchange_in(net, tree, place, to), changed)
            return
        with self.assertRaises(MakesRing) as caught:
            exchange_in(net, tree, place, to)
        ring = caught.exception.ring
        # No more than one list is so.
        self.assertIn(place, ring)
        self.assertEqual(ring[0], min(ring))
        self.assertEqual(len(set(ring)), len(ring))
        self.assertEqual([changed[at] for at in ring], ring[1:] + ring[:1])

    def test_each_place_and_each_end_in_turn(self):
        for net in NETS:
            for tree in listed_trees(net):
                for place, row in enumerate(net):
                    for to, weight in row:
                        self.tried(net, tree, place, to)

    def test_eight_places(self):
        dice = Dice(21)
        for net in great_nets(7, 8) + [FULL, full_net(8, [7], GREAT)]:
            for tree in trees_thrown(dice, net, 4):
                for place, row in enumerate(net):
                    for to, weight in row:
                        self.tried(net, tree, place, to)

    def test_beyond_the_bounds(self):
        net = full_net(12, [4], 10 ** 50)
        tree = [4, 4, 4, 4, None, 4, 5, 6, 7, 8, 9, 10]
        self.assertEqual(exchange_in(net, tree, 11, 0), tree[:11] + [0])
        self.closes([5, 11, 10, 9, 8, 7, 6], net, tree, 5, 11)
        self.closes([6, 11, 10, 9, 8, 7], net, tree, 6, 11)

    def test_all_stays_and_is_not_shared(self):
        dice = Dice(23)
        for net in great_nets(1, 8) + [TWO_ROOTS, FULL]:
            for tree in trees_thrown(dice, net, 2):
                for place, to in [(place, end) for place, end in enumerate(tree) if end is not None]:
                    check_sharing(self, exchange_in, net, tree, place, to)
                for place, to in exchanges_of(net, tree):
                    check_sharing(self, exchange_in, net, tree, place, to)

    def test_the_ring_of_a_refusal_is_the_askers_own(self):
        tree = list(CHAIN)
        rings = []
        for turn in range(3):
            with self.assertRaises(MakesRing) as caught:
                exchange_in(FULL, tree, 2, 5)
            rings.append(caught.exception.ring)
            self.assertEqual(rings[-1], [2, 5, 4, 3])
            rings[-1].clear()
        self.assertEqual(len({id(ring) for ring in rings}), 3)
        self.assertEqual(tree, CHAIN)


class TestNoArrow(unittest.TestCase):
    def refused(self, net, tree, place, to):
        before = list(tree)
        check_refused(self, NoArrow, exchange_in, net, tree, place, to)
        self.assertEqual(tree, before)

    def test_a_root(self):
        for to in (0, 1, 2, 3, None):
            self.refused(TWO_ROOTS, [None, 0, 3, None], 0, to)
            self.refused(TWO_ROOTS, [None, 0, 3, None], 3, to)
        self.refused([[]], [None], 0, 0)
        self.refused([[]], [None], 0, None)

    def test_numbers_that_are_no_place(self):
        for place in (-1, -2, -7, -8, -9, 8, 9, 100, GREAT, -GREAT):
            for to in (0, 1, place, 8):
                self.refused(FULL, CHAIN, place, to)
        for place in (-1, -2, -3, -4, 4, 5):
            self.refused(TWO_ROOTS, [None, 0, 3, None], place, 1)

    def test_ends_that_no_arrow_has(self):
        for net in NETS:
            for tree in listed_trees(net):
                for place, row in enumerate(net):
                    for to in set(range(-4, 8)) - {to for to, weight in row}:
                        self.refused(net, tree, place, to)
        for to in (-1, -2, -8, 8, 9, GREAT, -GREAT):
            self.refused(FULL, CHAIN, 5, to)

    def test_things_of_any_sort(self):
        # All places but 3 have an arrow to each place, so only what is no place is refused.
        net = full_net(4, [3])
        tree = [3, 0, 0, None]
        for thing in no_places():
            self.refused(net, tree, thing, 3)
            self.refused(net, tree, thing, 0)
            for place in range(4):
                self.refused(net, tree, place, thing)
            self.refused(net, tree, thing, thing)


class TestNoTree(unittest.TestCase):
    def refused(self, function, net, *handed):
        check_refused(self, NoTree, function, net, *handed)

    def test_ahead_of_all_else(self):
        for things in no_trees(TWO_ROOTS):
            self.refused(exchange_in, TWO_ROOTS, things, 1, 2)
            self.refused(exchange_in, TWO_ROOTS, things, 1, 1)
            self.refused(exchange_in, TWO_ROOTS, things, 0, 1)
            self.refused(exchange_in, TWO_ROOTS, things, 1, 3)
            self.refused(exchange_in, TWO_ROOTS, things, 4, None)
            self.refused(exchange_in, TWO_ROOTS, things, None, "0")

    def test_exchanges_of(self):
        for net in (TWO_ROOTS, [[]], [[], [(0, 1)]]):
            for things in no_trees(net):
                self.refused(exchanges_of, net, things)

    def test_exchanges_between_for_either_tree(self):
        for net in (TWO_ROOTS, [[]], [[], [(0, 1)]]):
            tree = listed_trees(net)[0]
            for things in no_trees(net):
                self.refused(exchanges_between, net, things, tree)
                self.refused(exchanges_between, net, tree, things)
                self.refused(exchanges_between, net, things, things)

    def test_nets_without_a_tree(self):
        for net in ([[(0, 1)]], [[(1, 1)], [(0, 1)]], [[], [(2, 1)], [(1, 1)]], full_net(8, [])):
            for things in ([0], [None], [1, 0], [None, 2, 1], [1] * 8, [None] * 8, [1, 2, 3, 4, 5, 6, 7, 0]):
                self.refused(exchange_in, net, things, 0, 0)
                self.refused(exchanges_of, net, things)
                self.refused(exchanges_between, net, things, things)


class TestExchangesOf(unittest.TestCase):
    def tried_all(self, net, tree):
        told = []
        for place, row in enumerate(net):
            for to, weight in row:
                if tree[place] != to and settles(net, with_end(tree, place, to)):
                    told.append((place, to))
        return sorted(told)

    def test_worked_by_hand(self):
        self.assertEqual(exchanges_of(TWO_ROOTS, [None, 0, 1, None]), [(2, 3)])
        self.assertEqual(exchanges_of(TWO_ROOTS, [None, 0, 3, None]), [(1, 2), (2, 1)])
        self.assertEqual(exchanges_of(TWO_ROOTS, [None, 2, 3, None]), [(1, 0)])
        self.assertEqual(exchanges_of([[]], [None]), [])
        self.assertEqual(exchanges_of([[] for place in range(8)], [None] * 8), [])
        self.assertEqual(exchanges_of([[], [(0, 5)]], [None, 0]), [])

    def test_a_star_and_a_chain(self):
        others = [(place, to) for place in range(1, 8) for to in range(1, 8) if to != place]
        self.assertEqual(exchanges_of(FULL, STAR), others)
        lower = [(place, to) for place in range(1, 8) for to in range(place - 1)]
        self.assertEqual(exchanges_of(FULL, CHAIN), lower)

    def test_against_each_exchange_tried(self):
        for net in NETS:
            for tree in listed_trees(net):
                self.assertEqual(exchanges_of(net, tree), self.tried_all(net, tree))

    def test_eight_places(self):
        dice = Dice(25)
        for net in great_nets(7, 8) + [FULL, full_net(8, [7], GREAT), full_net(12, [5], 10 ** 40)]:
            for tree in trees_thrown(dice, net, 8):
                self.assertEqual(exchanges_of(net, tree), self.tried_all(net, tree))

    def test_a_list_of_tuples(self):
        told = exchanges_of(FULL, CHAIN)
        self.assertIs(type(told), list)
        for exchange in told:
            self.assertIs(type(exchange), tuple)
            self.assertEqual([type(part) for part in exchange], [int, int])

    def test_all_stays_and_is_not_shared(self):
        dice = Dice(27)
        for net in great_nets(1, 8) + [TWO_ROOTS, FULL, [[], []]]:
            for tree in trees_thrown(dice, net, 3):
                check_sharing(self, exchanges_of, net, tree)


class TestExchangesBetween(unittest.TestCase):
    def leads(self, net, one, other):
        told = exchanges_between(net, one, other)
        self.assertIs(type(told), list)
        self.assertEqual(len(told), len([1 for end, to in zip(one, other) if end != to]))
        tree = one
        for exchange in told:
            self.assertIs(type(exchange), tuple)
            place, to = exchange
            tree = exchange_in(net, tree, place, to)
        self.assertEqual(tree, other)

    def test_only_one_order_will_do(self):
        net = full_net(3, [0])
        self.assertEqual(exchanges_between(net, [None, 0, 1], [None, 2, 0]), [(2, 0), (1, 2)])
        self.assertEqual(exchanges_between(net, [None, 2, 0], [None, 0, 1]), [(1, 0), (2, 1)])

    def test_a_chain_turned_round(self):
        rising = [None, 2, 3, 4, 5, 6, 7, 0]
        turned = [(7, 0), (6, 7), (5, 6), (4, 5), (3, 4), (2, 3), (1, 2)]
        self.assertEqual(exchanges_between(FULL, CHAIN, rising), turned)
        self.leads(FULL, CHAIN, rising)
        self.leads(FULL, rising, CHAIN)
        self.leads(FULL, STAR, rising)
        self.leads(FULL, rising, STAR)

    def test_none_for_a_tree_and_itself(self):
        for net in NETS:
            for tree in listed_trees(net):
                self.assertEqual(exchanges_between(net, tree, list(tree)), [])
                self.assertEqual(exchanges_between(net, tree, tree), [])
        self.assertEqual(exchanges_between(FULL, CHAIN, CHAIN), [])

    def test_all_pairs_of_trees(self):
        for net in NETS:
            trees = listed_trees(net)
            for one in trees:
                for other in trees:
                    self.leads(net, one, other)

    def test_eight_places(self):
        dice = Dice(29)
        for net in great_nets(5, 8) + [FULL, full_net(8, [7], GREAT), full_net(8, [2, 5]), full_net(12, [5])]:
            trees = trees_thrown(dice, net, 8)
            for one in trees:
                for other in trees:
                    self.leads(net, one, other)

    def test_all_stays_and_is_not_shared(self):
        dice = Dice(31)
        for net in great_nets(1, 8) + [TWO_ROOTS, FULL, [[], []]]:
            trees = trees_thrown(dice, net, 3)
            for tree in trees:
                check_sharing(self, exchanges_between, net, tree, trees[0])
                check_sharing(self, exchanges_between, net, tree, tree)


if __name__ == "__main__":
    unittest.main()
