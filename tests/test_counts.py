import inspect
import time
import unittest

from ringpop.changes import rooted_at
from ringpop.counts import count_of, many_of, shares_of
from ringpop.errors import NoPlace
from ringpop.trees import weight_of

from listing import listed_trees
from oddities import no_places
from refusing import check_refused
from samples import Dice, full_net, great_nets, rootless_nets, small_nets, thrown_net
from sharing import check_sharing

NET = [[], [(0, 1), (2, 3)], [(1, 1)]]
# Its trees are - 0 1 - (10), - 0 3 - (14) and - 2 3 - (21).
TWO_ROOTS = [[], [(0, 2), (1, 9), (2, 3)], [(1, 5), (3, 7)], []]
# From 2 and 3 no way leads to the root, whatever the other places do.
CUT_OFF = [[], [(0, 5), (2, 7)], [(3, 2)], [(2, 3), (3, 4)]]
GREAT = 10 ** 30 - 1


def listed_count(net):
    return sum(weight_of(net, tree) for tree in listed_trees(net))


def listed_shares(net, place):
    weights = [(tree[place], weight_of(net, tree)) for tree in listed_trees(net)]
    return [(to, sum(weight for end, weight in weights if end == to)) for to, own in net[place]]


def listable_nets():
    return small_nets() + great_nets(4, 5) + [full_net(5, [0]), full_net(5, [1, 4], GREAT), full_net(4, [])]


# The places called by other numbers: at[place] is what place is called.
def renamed(net, at):
    rows = [[] for row in net]
    for place, row in enumerate(net):
        rows[at[place]] = sorted((at[to], weight) for to, weight in row)
    return rows


class TestInterface(unittest.TestCase):
    def test_names_of_arguments(self):
        self.assertEqual(str(inspect.signature(count_of)), "(net)")
        self.assertEqual(str(inspect.signature(many_of)), "(net)")
        self.assertEqual(str(inspect.signature(shares_of)), "(net, place)")


class TestCountOf(unittest.TestCase):
    def test_one_place(self):
        self.assertEqual(count_of([[]]), 1)
        self.assertEqual(count_of([[(0, 1)]]), 0)
        self.assertEqual(count_of([[(0, GREAT)]]), 0)

    def test_all_roots(self):
        for many in range(1, 10):
            self.assertEqual(count_of([[] for place in range(many)]), 1)

    def test_no_root(self):
        self.assertEqual(count_of([[(1, 1)], [(0, 1)]]), 0)
        self.assertEqual(count_of([[(1, 2), (2, 3)], [(0, 5)], [(0, 7), (2, 1)]]), 0)
        for many in range(1, 9):
            self.assertEqual(count_of(full_net(many, [], 10 ** 9 - 1)), 0)
            self.assertEqual(count_of([[((place + 1) % many, 3)] for place in range(many)]), 0)
        for net in rootless_nets():
            self.assertEqual(count_of(net), 0)

    def test_worked_by_hand(self):
        self.assertEqual(count_of(NET), 1)
        self.assertEqual(count_of([[(1, 6)], []]), 6)
        self.assertEqual(count_of([[], [(0, 2), (2, 3)], [(0, 5), (1, 7)]]), 2 * 5 + 2 * 7 + 3 * 5)
        self.assertEqual(count_of([[]] + [[(place - 1, place + 1)] for place in range(1, 8)]), 40320)

    def test_several_roots(self):
        self.assertEqual(count_of(TWO_ROOTS), 45)
        self.assertEqual(count_of([[], [], [(0, 3), (1, 4)]]), 7)
        self.assertEqual(count_of([[(1, 3), (3, 4)], [], [(1, 5), (3, 6)], []]), 77)

    def test_arrows_of_places_to_themselves_are_in_no_tree(self):
        self.assertEqual(count_of([[], [(0, 2), (1, 100)]]), 2)
        self.assertEqual(count_of([[], [(0, 1), (1, 8), (2, 3)], [(1, 1), (2, 9)]]), 1)
        self.assertEqual(count_of([[], [(1, 100)]]), 0)
        for net in great_nets(2, 8):
            bare = [[(to, weight) for to, weight in row if to != place] for place, row in enumerate(net)]
            if [] not in [less for less, row in zip(bare, net) if row]:
                self.assertEqual(count_of(net), count_of(bare))

    def test_no_way_to_a_root_from_some_place(self):
        self.assertEqual(count_of([[], [(2, 1)], [(1, 1)]]), 0)
        self.assertEqual(count_of([[], [(0, 5)], [(2, 1)]]), 0)
        self.assertEqual(count_of([[], [(0, 5), (2, 1)], [(2, 1)]]), 0)
        self.assertEqual(count_of([[(0, 1)], [(0, 1), (2, 3)], []]), 0)

    def test_places_that_are_cut_off_wherever_they_stand(self):
        self.assertEqual(count_of(CUT_OFF), 0)
        wide = [[], [(0, 5), (2, 7)], [(3, 2)], [(2, 3), (3, 4)], [(0, 1), (3, 2)], [(1, 1), (4, 1)]]
        for turn in range(6):
            for step in (1, 5):
                at = [(step * place + turn) % 6 for place in range(6)]
                self.assertEqual(count_of(renamed(wide, at)), 0)

    def test_how_the_places_are_called_is_all_the_same(self):
        dice = Dice(3)
        for net in great_nets(2, 8) + [TWO_ROOTS, NET]:
            at = sorted(range(len(net)), key=lambda place: dice.throw(100))
            self.assertEqual(count_of(renamed(net, at)), count_of(net))

    def test_nine_and_thirty_figures_to_the_last(self):
        for weight in (1, 123456789, 999999999, 10 ** 29, GREAT):
            self.assertEqual(count_of([[], [(0, weight)]]), weight)
            self.assertEqual(count_of([[]] + [[(0, weight)] for place in range(7)]), weight ** 7)
            self.assertEqual(count_of(full_net(8, [3], weight)), 8 ** 6 * weight ** 7)
        self.assertEqual(count_of([[], [(0, GREAT), (2, 1)], [(0, 1), (1, GREAT)]]), GREAT * (GREAT + 1) + 1)
        self.assertEqual(count_of([[], [(0, 1), (2, GREAT)], [(0, 1), (1, GREAT)]]), 2 * GREAT + 1)

    def test_against_a_listing_of_all_trees(self):
        for net in listable_nets():
            self.assertEqual(count_of(net), listed_count(net), net)

    def test_a_whole_number_is_told(self):
        for net in listable_nets():
            self.assertIs(type(count_of(net)), int)

    def test_eight_places_with_arrows_from_each_to_each(self):
        start = time.monotonic()
        self.assertEqual(count_of(full_net(8, [])), 0)
        for place in range(8):
            self.assertEqual(count_of(full_net(8, [place])), 262144)
            self.assertEqual(count_of(full_net(8, [place], GREAT)), 262144 * GREAT ** 7)
            self.assertEqual(count_of(full_net(8, [place, (place + 3) % 8])), 2 * 8 ** 5)
        # All lists of ends, 2097152 for each net, can't be gone through in this time.
        self.assertLess(time.monotonic() - start, 5)

    def test_beyond_the_bounds(self):
        self.assertEqual(count_of(full_net(9, [0])), 9 ** 7)
        self.assertEqual(count_of(full_net(12, [5], 10 ** 60)), 12 ** 10 * 10 ** 660)
        self.assertEqual(count_of(full_net(12, [])), 0)

    def test_the_net_stays(self):
        for net in great_nets(1, 8):
            check_sharing(self, count_of, net)
            check_sharing(self, many_of, net)


class TestBalanceOfRoots(unittest.TestCase):
    def balanced(self, net):
        counts = [count_of(rooted_at(net, place)) for place in range(len(net))]
        for place, row in enumerate(net):
            into = sum(count * dict(other).get(place, 0) for count, other in zip(counts, net))
            self.assertEqual(into, counts[place] * sum(weight for to, weight in row))
        return counts

    def test_worked_by_hand(self):
        self.assertEqual(self.balanced([[(0, 5)]]), [1])
        self.assertEqual(self.balanced([[(1, 2)], [(0, 3)]]), [3, 2])
        self.assertEqual(self.balanced([[(0, 1), (1, 2)], [(2, 3)], [(0, 4), (1, 5)]]), [12, 2 * 9, 6])
        self.assertEqual(self.balanced([[(0, 1)], [(0, 1)]]), [1, 0])

    def test_small_nets(self):
        for net in small_nets():
            if [] not in net:
                self.balanced(net)

    def test_great_nets(self):
        for net in rootless_nets() + [full_net(8, []), full_net(8, [], GREAT)]:
            self.balanced(net)


class TestManyOf(unittest.TestCase):
    def test_worked_by_hand(self):
        self.assertEqual(many_of([[]]), 1)
        self.assertEqual(many_of([[(0, 7)]]), 0)
        self.assertEqual(many_of(NET), 1)
        self.assertEqual(many_of(TWO_ROOTS), 3)
        self.assertEqual(many_of(CUT_OFF), 0)
        self.assertEqual(many_of([[] for place in range(8)]), 1)
        self.assertEqual(many_of([[(1, GREAT)], []]), 1)

    def test_full_nets(self):
        for many, trees in ((1, 1), (2, 1), (3, 3), (4, 16), (5, 125), (6, 1296), (7, 16807), (8, 262144)):
            self.assertEqual(many_of(full_net(many, [many - 1], 10 ** 9)), trees)
            self.assertEqual(many_of(full_net(many, [], 2)), 0)

    def test_the_count_with_1_for_each_weight(self):
        for net in great_nets(1, 8):
            self.assertEqual(many_of(net), count_of([[(to, 1) for to, weight in row] for row in net]))

    def test_against_a_listing_of_all_trees(self):
        for net in listable_nets():
            self.assertEqual(many_of(net), len(listed_trees(net)))


class TestSharesOf(unittest.TestCase):
    def test_worked_by_hand(self):
        self.assertEqual(shares_of(NET, 1), [(0, 1), (2, 0)])
        self.assertEqual(shares_of(NET, 2), [(1, 1)])
        self.assertEqual(shares_of(TWO_ROOTS, 1), [(0, 24), (1, 0), (2, 21)])
        self.assertEqual(shares_of(TWO_ROOTS, 2), [(1, 10), (3, 35)])

    def test_a_list_of_tuples(self):
        told = shares_of(TWO_ROOTS, 1)
        self.assertIs(type(told), list)
        self.assertEqual([type(share) for share in told], [tuple] * 3)

    def test_0_for_an_arrow_to_the_place_itself(self):
        self.assertEqual(shares_of([[], [(0, 2), (1, GREAT)]], 1), [(0, 2), (1, 0)])
        for net in great_nets(1, 8):
            for place, row in enumerate(net):
                if place in dict(row):
                    self.assertEqual(dict(shares_of(net, place))[place], 0)

    def test_all_0_where_there_is_no_tree(self):
        self.assertEqual(shares_of([[(0, 3)]], 0), [(0, 0)])
        self.assertEqual(shares_of([[(0, 3), (1, 2)], [(0, 1)]], 0), [(0, 0), (1, 0)])
        self.assertEqual(shares_of(CUT_OFF, 1), [(0, 0), (2, 0)])
        self.assertEqual(shares_of(CUT_OFF, 2), [(3, 0)])
        self.assertEqual(shares_of(CUT_OFF, 3), [(2, 0), (3, 0)])
        for place in range(8):
            self.assertEqual(shares_of(full_net(8, []), place), [(to, 0) for to in range(8)])

    def test_they_come_to_the_count_arrow_by_arrow(self):
        for net in small_nets() + great_nets(4, 8):
            for place, row in enumerate(net):
                if row:
                    told = shares_of(net, place)
                    self.assertEqual([to for to, many in told], [to for to, weight in row])
                    self.assertEqual(sum(many for to, many in told), count_of(net))

    def test_against_a_listing_of_all_trees(self):
        for net in listable_nets():
            for place, row in enumerate(net):
                if row:
                    self.assertEqual(shares_of(net, place), listed_shares(net, place))

    def test_eight_places(self):
        # Each tree of a full net has seven of its 28 pairs of places, each pair as
        # often as any other, and one to the root one way round alone.
        net = full_net(8, [0], GREAT)
        told = [(0, 2 * 8 ** 5 * GREAT ** 7)] + [(to, 8 ** 5 * GREAT ** 7) for to in range(1, 8)]
        for place in range(1, 8):
            expected = [(to, 0 if to == place else many) for to, many in told]
            self.assertEqual(shares_of(net, place), expected)

    def test_beyond_the_bounds(self):
        net = thrown_net(Dice(1), 12, [4], 50)
        for place in range(12):
            if place != 4:
                self.assertEqual(sum(many for to, many in shares_of(net, place)), count_of(net))

    def test_all_stays_and_is_not_shared(self):
        for net in [NET, TWO_ROOTS] + great_nets(1, 8):
            for place, row in enumerate(net):
                if row:
                    check_sharing(self, shares_of, net, place)


class TestNoPlace(unittest.TestCase):
    def refused(self, net, place):
        check_refused(self, NoPlace, shares_of, net, place)

    def test_a_root(self):
        self.refused(NET, 0)
        self.refused(TWO_ROOTS, 0)
        self.refused(TWO_ROOTS, 3)
        for place in range(8):
            self.refused([[] for row in range(8)], place)

    def test_numbers_that_are_no_place(self):
        for net in (NET, TWO_ROOTS, full_net(8, []), [[(0, 1)]]):
            for number in (-1, -2, -len(net), -len(net) - 1, len(net), len(net) + 1, 100, GREAT, -GREAT):
                self.refused(net, number)

    def test_things_of_any_sort(self):
        # All places of these have arrows, so only what is no place is refused.
        for net in (full_net(3, []), full_net(8, []), [[(1, 1)], [(1, 1)]]):
            for thing in no_places():
                self.refused(net, thing)

    def test_a_place_whose_only_arrow_leads_to_itself_is_one_with_arrows(self):
        self.assertEqual(shares_of([[], [(1, 4)]], 1), [(1, 0)])


if __name__ == "__main__":
    unittest.main()
