import copy
import unittest

from ringpop.errors import NoNet
from ringpop.nets import net_of, roots_of

from oddities import oddities
from refusing import check_refused

FULL = [[(to, 10 * place + to + 1) for to in range(8)] for place in range(8)]

NETS = (
    [[]],
    [[(0, 1)]],
    [[], []],
    [[], [(0, 1), (2, 3)], [(1, 1)]],
    [[(1, 1)], [(0, 1)]],
    [[(0, 5), (1, 1)], []],
    [[], [(0, 10 ** 29)], [(0, 10 ** 30 - 1), (1, 1)]],
    [[], [(0, 10 ** 6000)]],
    [[]] * 8,
    [[(7, 1)]] + [[]] * 7,
    FULL,
)


def is_weight(thing):
    return type(thing) is int and thing >= 1


class TestNetOf(unittest.TestCase):
    def refused(self, things):
        check_refused(self, NoNet, net_of, things)

    def test_nets_are_told_as_they_are(self):
        for things in NETS:
            net = net_of(copy.deepcopy(things))
            self.assertEqual(net, things)
            self.assertIs(type(net), list)
            for row in net:
                self.assertIs(type(row), list)
                self.assertTrue(all(type(arrow) is tuple for arrow in row))

    def test_a_told_net_is_a_net(self):
        for things in NETS:
            self.assertEqual(net_of(net_of(things)), things)

    def test_no_list(self):
        for things in [None, (), ([],), ([], []), 0, 1, 8] + oddities():
            self.refused(things)

    def test_no_row_and_nine_rows(self):
        self.refused([])
        self.refused([[] for place in range(9)])
        self.refused([[(0, 1)] for place in range(9)])
        self.refused([[] for place in range(1000)])

    def test_a_row_that_is_no_list(self):
        for row in [None, (), ((0, 1),), 0, (0, 1)] + oddities():
            self.refused([row])
            self.refused([[], row])
            self.refused([row, [], [(0, 1)]])

    def test_an_arrow_that_is_no_tuple_of_two(self):
        for arrow in [None, [], [0, 1], (), (0,), (0, 1, 1), ((0, 1),), 0, "01"] + oddities():
            self.refused([[], [arrow]])
            self.refused([[], [(0, 1), arrow]])
            self.refused([[arrow, (1, 1)], []])

    def test_an_end_that_is_no_place(self):
        for to in [None, [], [0], (), (0,), 2, 3, 8, 0.0] + oddities():
            self.refused([[], [(to, 1)]])
            self.refused([[(to, 1)], []])
            self.refused([[], [(0, 1), (to, 1)]])

    def test_the_greatest_end_is_one_below_how_many_places(self):
        for many in range(1, 9):
            rows = [[] for place in range(many)]
            self.assertEqual(net_of([[(many - 1, 1)]] + rows[1:]), [[(many - 1, 1)]] + rows[1:])
            self.refused([[(many, 1)]] + rows[1:])
            self.refused([[(-1, 1)]] + rows[1:])

    def test_a_truth_is_no_end(self):
        self.refused([[], [(False, 1)]])
        self.refused([[(True, 1)], []])
        self.refused([[(0, 1), (True, 1)], []])

    def test_ends_that_do_not_rise(self):
        self.refused([[(1, 1), (0, 1)], []])
        self.refused([[], [(0, 1), (0, 1)]])
        self.refused([[], [(0, 1), (0, 2)]])
        self.refused([[], [], [(0, 1), (2, 1), (1, 1)]])
        self.refused([[], [], [(0, 1), (1, 1), (1, 1)]])
        self.refused([[], [], [(0, 1), (1, 1), (0, 1)]])

    def test_a_weight_that_is_no_number_from_1_on(self):
        weights = [None, 0, -1, -2, [], [1], (), (1,), "1"]
        for weight in weights + [thing for thing in oddities() if not is_weight(thing)]:
            self.refused([[], [(0, weight)]])
            self.refused([[], [(0, 1), (1, weight)]])

    def test_a_weight_of_1_and_of_many_figures(self):
        for weight in (1, 2, 10 ** 30, 10 ** 6000):
            self.assertEqual(net_of([[], [(0, weight)]]), [[], [(0, weight)]])

    def test_what_was_handed_in_stays_and_is_not_shared(self):
        for things in NETS:
            handed = copy.deepcopy(things)
            one = net_of(handed)
            other = net_of(handed)
            answers = [one] + one + [other] + other
            self.assertEqual(len({id(thing) for thing in answers}), 2 + 2 * len(things))
            self.assertFalse({id(thing) for thing in answers} & {id(thing) for thing in [handed] + handed})
            for thing in answers:
                thing.append("changed")
            self.assertEqual(handed, things)

    def test_a_refused_thing_stays_too(self):
        things = [[(1, 1), (0, 1)], [], [[]]]
        self.refused(things)
        self.assertEqual(things, [[(1, 1), (0, 1)], [], [[]]])


class TestRootsOf(unittest.TestCase):
    def test_roots_in_order(self):
        self.assertEqual(roots_of([[]]), [0])
        self.assertEqual(roots_of([[(1, 1)], []]), [1])
        self.assertEqual(roots_of([[], [(0, 1), (2, 3)], [(1, 1)]]), [0])
        self.assertEqual(roots_of([[], [(0, 1)], [], [(3, 1)], []]), [0, 2, 4])
        self.assertEqual(roots_of([[] for place in range(8)]), list(range(8)))

    def test_no_roots(self):
        self.assertEqual(roots_of([[(0, 1)]]), [])
        self.assertEqual(roots_of([[(1, 1)], [(0, 1)]]), [])
        self.assertEqual(roots_of(FULL), [])

    def test_built_anew_and_the_net_stays(self):
        net = [[], [(0, 1)], []]
        one = roots_of(net)
        other = roots_of(net)
        self.assertIsNot(one, other)
        one.append("changed")
        self.assertEqual(other, [0, 2])
        self.assertEqual(roots_of(net), [0, 2])
        self.assertEqual(net, [[], [(0, 1)], []])


if __name__ == "__main__":
    unittest.main()
