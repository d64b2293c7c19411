import inspect
import unittest

from ringpop.changes import less_place, rooted_at
from ringpop.counts import count_of
from ringpop.errors import NoPlace
from ringpop.nets import net_of

from oddities import no_places
from refusing import check_refused
from samples import full_net, great_nets, small_nets
from sharing import check_sharing

NET = [[], [(0, 1), (2, 3)], [(1, 1)]]
LOOPED = [[(0, 9), (1, 2), (2, 3)], [(0, 5)], [(0, 7), (2, 4)], []]


def sum_to_others(net, place):
    return sum(weight for to, weight in net[place] if to != place)


def takeable(net):
    return [place for place in range(len(net)) if sum_to_others(net, place)]


# Worked on a square of weights, 0 for no arrow, from which a line and a column are cut.
def lesser_otherwise(net, taken):
    square = [[0 for row in net] for row in net]
    for place, row in enumerate(net):
        for to, weight in row:
            square[place][to] = weight
    whole = sum(square[taken]) - square[taken][taken]
    lesser = [
        [whole * weight + line[taken] * square[taken][to] for to, weight in enumerate(line)]
        for line in square
    ]
    lesser.pop(taken)
    for line in lesser:
        line.pop(taken)
    return [[(to, weight) for to, weight in enumerate(line) if weight] for line in lesser]


class TestInterface(unittest.TestCase):
    def test_names_of_arguments(self):
        self.assertEqual(str(inspect.signature(rooted_at)), "(net, place)")
        self.assertEqual(str(inspect.signature(less_place)), "(net, place)")


class TestRootedAt(unittest.TestCase):
    def test_an_empty_row_in_the_place_of_the_old_one(self):
        self.assertEqual(rooted_at(NET, 0), NET)
        self.assertEqual(rooted_at(NET, 1), [[], [], [(1, 1)]])
        self.assertEqual(rooted_at(NET, 2), [[], [(0, 1), (2, 3)], []])
        self.assertEqual(rooted_at(LOOPED, 0), [[], [(0, 5)], [(0, 7), (2, 4)], []])
        self.assertEqual(rooted_at([[]], 0), [[]])
        self.assertEqual(rooted_at([[(0, 1)]], 0), [[]])

    def test_on_samples(self):
        for net in small_nets() + great_nets(4, 8):
            for place in range(len(net)):
                self.assertEqual(rooted_at(net, place), net[:place] + [[]] + net[place + 1:])

    def test_beyond_the_bounds(self):
        net = full_net(12, [3], 10 ** 40)
        self.assertEqual(rooted_at(net, 11), net[:11] + [[]])

    def test_all_stays_and_is_not_shared(self):
        for net in [NET, LOOPED] + great_nets(1, 8):
            for place in range(len(net)):
                check_sharing(self, rooted_at, net, place)


class TestLessPlace(unittest.TestCase):
    def test_worked_by_hand(self):
        # From 2 to 1 there is a way to 0 and one back to 2, which is then called 1.
        self.assertEqual(less_place(NET, 1), [[], [(0, 1), (1, 3)]])
        # W is 1; from 1 by way of 2 back to 1.
        self.assertEqual(less_place(NET, 2), [[], [(0, 1), (1, 3)]])
        # W is 2 + 3: the arrow to the place itself has no part in it.
        self.assertEqual(less_place(LOOPED, 0), [[(0, 10), (1, 15)], [(0, 14), (1, 5 * 4 + 7 * 3)], []])
        # W is 5; by way of 1 nothing leads anywhere but to 0.
        self.assertEqual(less_place(LOOPED, 1), [[(0, 9 * 5 + 2 * 5), (1, 15)], [(0, 35), (1, 20)], []])
        # W is 7.
        self.assertEqual(less_place(LOOPED, 2), [[(0, 9 * 7 + 3 * 7), (1, 14)], [(0, 35)], []])

    def test_an_arrow_that_only_leads_to_the_taken_place(self):
        self.assertEqual(less_place([[(1, 2)], [(0, 3)]], 0), [[(0, 6)]])
        self.assertEqual(less_place([[(1, 2)], [(0, 3)]], 1), [[(0, 6)]])
        self.assertEqual(less_place([[(1, 2)], []], 0), [[]])
        self.assertEqual(less_place([[(1, 2)], [(2, 3)], []], 1), [[(1, 6)], []])

    def test_the_taken_places_arrow_to_itself_is_lost(self):
        self.assertEqual(less_place([[(0, 5), (1, 2)], [(0, 3)]], 0), [[(0, 6)]])
        self.assertEqual(less_place([[(0, 5), (1, 2)], [(1, 3)]], 0), [[(0, 6)]])

    def test_roots_stay_roots(self):
        net = [[], [(0, 1), (4, 1)], [], [(1, 2)], []]
        self.assertEqual(less_place(net, 1), [[], [], [(0, 2), (3, 2)], []])
        self.assertEqual(less_place(net, 3), [[], [(0, 2), (3, 2)], [], []])

    def test_places_above_are_numbered_one_less(self):
        net = [[(7, 1)], [], [(0, 1), (3, 2), (4, 3), (7, 4)], [(2, 1)], [], [], [], [(3, 1)]]
        # W is 10; 3 is called 2 now, 4 is called 3, 7 is called 6.
        told = [[(6, 10)], [], [(0, 1), (2, 2), (3, 3), (6, 4)], [], [], [], [(2, 10)]]
        self.assertEqual(less_place(net, 2), told)

    def test_weights_of_thirty_figures(self):
        great = 10 ** 30 - 1
        net = [[(1, great)], [(0, great), (2, great)], []]
        self.assertEqual(less_place(net, 1), [[(0, great ** 2), (1, great ** 2)], []])
        net = [[(0, great), (1, great)], [(0, great), (2, 1)], []]
        self.assertEqual(less_place(net, 1), [[(0, great * (great + 1) + great ** 2), (1, great)], []])

    def test_against_the_words_on_samples(self):
        for net in small_nets() + great_nets(4, 8) + [full_net(12, [5], 3)]:
            for place in takeable(net):
                self.assertEqual(less_place(net, place), lesser_otherwise(net, place))

    def test_a_net_with_rising_rows_is_told(self):
        for net in small_nets() + great_nets(4, 8):
            for place in takeable(net):
                lesser = less_place(net, place)
                self.assertEqual(len(lesser), len(net) - 1)
                self.assertEqual(net_of(lesser), lesser)
                self.assertTrue(all(type(row) is list for row in lesser))

    def test_the_count_of_the_lesser_net(self):
        for net in small_nets() + great_nets(4, 8):
            with_arrows = len([row for row in net if row])
            for place in takeable(net):
                whole = sum_to_others(net, place)
                told = count_of(less_place(net, place))
                self.assertEqual(told * whole, count_of(net) * whole ** (with_arrows - 1))

    def test_place_after_place_till_the_roots_are_left(self):
        net = full_net(8, [4], 10 ** 29)
        for turn in range(7):
            net = less_place(net, takeable(net)[-1])
        self.assertEqual(net, [[]])

    def test_all_stays_and_is_not_shared(self):
        for net in [NET, LOOPED] + great_nets(1, 8):
            for place in takeable(net):
                check_sharing(self, less_place, net, place)


class TestNoPlace(unittest.TestCase):
    def refused(self, net, place):
        check_refused(self, NoPlace, less_place, net, place)

    def test_a_root(self):
        self.refused(NET, 0)
        self.refused(LOOPED, 3)
        self.refused([[]], 0)
        for place in range(8):
            self.refused([[] for row in range(8)], place)

    def test_a_place_whose_only_arrow_leads_to_itself(self):
        self.refused([[(0, 1)]], 0)
        self.refused([[], [(1, 5)]], 1)
        self.refused([[(0, 10 ** 30 - 1)], [(0, 1)]], 0)
        self.refused([[(1, 1)], [(0, 1)], [(2, 1)]], 2)

    def test_numbers_that_are_no_place(self):
        for net in (NET, LOOPED, full_net(8, []), [[(1, 1)], [(0, 1)]]):
            for number in (-1, -2, -len(net), -len(net) - 1, len(net), len(net) + 1, 100, 10 ** 30 - 1, -10 ** 30 + 1):
                self.refused(net, number)

    def test_things_of_any_sort(self):
        # All places of these may be taken, so only what is no place is refused.
        for net in (full_net(3, []), full_net(8, []), [[(1, 1)], [(0, 1)]]):
            for thing in no_places():
                self.refused(net, thing)


if __name__ == "__main__":
    unittest.main()
