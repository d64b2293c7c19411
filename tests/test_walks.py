import inspect
import itertools
import unittest

from ringpop.piles import rings_of, tops_of
from ringpop.popping import marked_rings, pop_out, put_back
from ringpop.walks import walk_out

from samples import Dice, great_piles, small_piles
from sharing import check_sharing

PILES = [[1, 0, 2], [0, 2], [2, 1, 2]]


# Found another way: first all steps of a walk are made, whatever rings they
# run round, and only then the rings are cut out of them.
def steps_from(start, piles, used, earlier):
    steps = [start]
    while steps[-1] not in earlier and used[steps[-1]] < len(piles[steps[-1]]):
        here = steps[-1]
        steps.append(piles[here][used[here]])
        used[here] += 1
    return steps


def cut_rings(steps):
    road, rings = [], []
    for place in steps:
        if place in road:
            ring = road[road.index(place):]
            least = ring.index(min(ring))
            rings.append(ring[least:] + ring[:least])
            road = road[:road.index(place)]
        road.append(place)
    return road, rings


def walked_otherwise(piles, starts):
    used = [0 for pile in piles]
    earlier = set()
    roads, rings = [], []
    for start in starts + [place for place in range(len(piles)) if place not in starts]:
        road, lost = cut_rings(steps_from(start, piles, used, earlier))
        # The arrows of the road were used, but they stay.
        for place in road[:-1]:
            used[place] -= 1
        roads.append(road)
        rings += lost
        earlier |= set(road)
    return (roads, rings, [pile[many:] for pile, many in zip(piles, used)])


class TestInterface(unittest.TestCase):
    def test_names_of_arguments(self):
        self.assertEqual(str(inspect.signature(walk_out)), "(piles, starts=None)")


class TestRoads(unittest.TestCase):
    def test_without_starts(self):
        told = ([[0, 2], [1], [2]], [[0, 1], [0], [2], [1, 2], [2]], [[2], [], []])
        self.assertEqual(walk_out(PILES), told)
        self.assertEqual(walk_out(PILES, None), told)
        self.assertEqual(walk_out(PILES, []), told)
        self.assertEqual(walk_out(PILES, [0]), told)
        self.assertEqual(walk_out(PILES, [0, 1, 2]), told)
        self.assertEqual(walk_out(piles=PILES, starts=None), told)

    def test_a_tuple_of_three_lists(self):
        told = walk_out(PILES)
        self.assertIs(type(told), tuple)
        self.assertEqual([type(part) for part in told], [list, list, list])

    def test_with_starts(self):
        rest = [[2], [], []]
        self.assertEqual(walk_out(PILES, [2, 1]), ([[2], [1], [0, 2]], [[2], [0, 1], [1, 2], [2], [0]], rest))
        self.assertEqual(walk_out(PILES, [2]), ([[2], [0, 2], [1]], [[2], [0, 1], [1, 2], [2], [0]], rest))

    def test_roads_without_rings(self):
        self.assertEqual(walk_out([[], [0], [1]]), ([[0], [1, 0], [2, 1]], [], [[], [0], [1]]))
        self.assertEqual(walk_out([[], [0], [1]], [2]), ([[2, 1, 0], [0], [1]], [], [[], [0], [1]]))
        self.assertEqual(walk_out([[], [0], [1]], [1]), ([[1, 0], [0], [2, 1]], [], [[], [0], [1]]))
        self.assertEqual(walk_out([[]]), ([[0]], [], [[]]))
        self.assertEqual(walk_out([[], []]), ([[0], [1]], [], [[], []]))
        chain = [[place + 1] for place in range(7)] + [[]]
        self.assertEqual(walk_out(chain), ([list(range(8))] + [[place] for place in range(1, 8)], [], chain))

    def test_a_start_that_comes_twice_has_a_road_each_time(self):
        piles = [[], [0], [1]]
        self.assertEqual(walk_out(piles, [2, 2]), ([[2, 1, 0], [2], [0], [1]], [], piles))
        self.assertEqual(walk_out(piles, [1, 2, 1, 2, 2]), ([[1, 0], [2, 1], [1], [2], [2], [0]], [], piles))
        self.assertEqual(walk_out([[0, 0]], [0, 0]), ([[0], [0]], [[0], [0]], [[]]))

    def test_bare_starts(self):
        piles = [[], [0], [], [2, 1]]
        self.assertEqual(walk_out(piles, [0]), ([[0], [1, 0], [2], [3, 2]], [], piles))
        self.assertEqual(walk_out(piles, [2, 0, 0, 3]), ([[2], [0], [0], [3, 2], [1, 0]], [], piles))

    def test_starts_on_an_earlier_road(self):
        piles = [[1], [2], [3], [], [1]]
        self.assertEqual(walk_out(piles, [0, 2, 1, 3]), ([[0, 1, 2, 3], [2], [1], [3], [4, 1]], [], piles))
        self.assertEqual(walk_out(piles, [1, 4, 1]), ([[1, 2, 3], [4, 1], [1], [0, 1], [2], [3]], [], piles))

    def test_a_walk_ends_at_an_earlier_road_without_looking_at_its_tops(self):
        self.assertEqual(walk_out([[1], [], [0]]), ([[0, 1], [1], [2, 0]], [], [[1], [], [0]]))

    def test_what_an_earlier_walk_lost_is_not_on_its_road(self):
        piles = [[1, 3], [0, 3], [1], []]
        rest = [[3], [3], [1], []]
        self.assertEqual(walk_out(piles, [0, 2]), ([[0, 3], [2, 1, 3], [1], [3]], [[0, 1]], rest))
        self.assertEqual(walk_out(piles, [0, 3, 0]), ([[0, 3], [3], [0], [1, 3], [2, 1]], [[0, 1]], rest))

    def test_the_rest_of_a_walk_may_come_to_a_lost_place_again(self):
        self.assertEqual(walk_out([[1, 1], [0, 2], []]), ([[0, 1, 2], [1], [2]], [[0, 1]], [[1], [2], []]))


class TestLosing(unittest.TestCase):
    def test_a_ring_of_one_place(self):
        self.assertEqual(walk_out([[0]]), ([[0]], [[0]], [[]]))
        self.assertEqual(walk_out([[0, 1], []]), ([[0, 1], [1]], [[0]], [[1], []]))
        self.assertEqual(walk_out([[1], [1, 1, 2], []]), ([[0, 1, 2], [1], [2]], [[1], [1]], [[1], [2], []]))

    def test_several_rings(self):
        piles = [[1, 3], [2, 2, 0], [1, 2, 1, 0, 0], []]
        rings = [[1, 2], [2], [1, 2], [0, 1]]
        rest = [[3], [], [0, 0], []]
        self.assertEqual(walk_out(piles), ([[0, 3], [1], [2, 0], [3]], rings, rest))

    def test_rings_are_told_with_the_least_place_first(self):
        piles = [[1, 3], [2, 3], [0, 3], []]
        rest = [[3], [3], [3], []]
        self.assertEqual(walk_out(piles, [2])[1:], ([[0, 1, 2]], rest))
        self.assertEqual(walk_out(piles, [1])[1:], ([[0, 1, 2]], rest))
        self.assertEqual(walk_out([[2], [0], [1]], [1]), ([[1], [0], [2]], [[0, 2, 1]], [[], [], []]))

    def test_the_ring_reaches_from_the_place_that_was_met_again(self):
        # The road 0 1 2 3 is cut behind 1.
        piles = [[1], [2, 4], [3], [1], []]
        told = ([[0, 1, 4], [1], [2], [3], [4]], [[1, 2, 3]], [[1], [4], [], [], []])
        self.assertEqual(walk_out(piles), told)

    def test_full_piles(self):
        self.assertEqual(walk_out([[0] * 40]), ([[0]], [[0]] * 40, [[]]))
        self.assertEqual(walk_out([[1] * 40, [0] * 40], [1]), ([[1], [0]], [[0, 1]] * 40, [[], []]))

    def test_beyond_the_bounds(self):
        self.assertEqual(walk_out([[0] * 60]), ([[0]], [[0]] * 60, [[]]))
        nine = [[] for place in range(8)] + [[8, 0]]
        roads = [[8, 0]] + [[place] for place in range(8)]
        self.assertEqual(walk_out(nine, [8]), (roads, [[8]], [[] for place in range(8)] + [[0]]))


class TestAllWalks(unittest.TestCase):
    def starts_for(self, dice, piles):
        return [dice.throw(len(piles)) for turn in range(dice.throw(12))]

    def test_small_piles_with_all_starts(self):
        for piles in small_piles(3, 2):
            for starts in itertools.product(range(3), repeat=2):
                self.assertEqual(walk_out(piles, list(starts)), walked_otherwise(piles, list(starts)))
            self.assertEqual(walk_out(piles), walked_otherwise(piles, []))

    def test_great_piles(self):
        dice = Dice(2)
        for piles in great_piles():
            for turn in range(6):
                starts = self.starts_for(dice, piles)
                self.assertEqual(walk_out(piles, starts), walked_otherwise(piles, starts))

    def test_the_same_rings_and_rest_as_popped_out(self):
        dice = Dice(4)
        for piles in small_piles(3, 2) + great_piles():
            rings, rest = pop_out(piles, [1, 2, 3])
            for starts in (None, [], self.starts_for(dice, piles)):
                roads, lost, left = walk_out(piles, starts)
                self.assertEqual(marked_rings(lost), marked_rings(rings))
                self.assertEqual(left, rest)
                self.assertEqual(rings_of(tops_of(left)), [])
                self.assertEqual(put_back(left, lost), piles)

    def test_a_road_for_each_start_and_each_other_place(self):
        dice = Dice(6)
        for piles in great_piles():
            starts = self.starts_for(dice, piles)
            roads, rings, rest = walk_out(piles, starts)
            others = [place for place in range(len(piles)) if place not in starts]
            self.assertEqual([road[0] for road in roads], starts + others)
            for turn, road in enumerate(roads):
                earlier = {place for ahead in roads[:turn] for place in ahead}
                self.assertFalse(earlier & set(road[:-1]))
                self.assertTrue(road[-1] in earlier or rest[road[-1]] == [])
                self.assertEqual([rest[place][0] for place in road[:-1]], road[1:])

    def test_all_stays_and_is_not_shared(self):
        dice = Dice(8)
        for piles in [PILES, [[]], [[], [0], [1]]] + great_piles():
            check_sharing(self, walk_out, piles)
            check_sharing(self, walk_out, piles, None)
            check_sharing(self, walk_out, piles, [])
            check_sharing(self, walk_out, piles, self.starts_for(dice, piles))
        pile = [0, 1, 0]
        walk_out([pile, pile])
        self.assertEqual(pile, [0, 1, 0])


if __name__ == "__main__":
    unittest.main()
