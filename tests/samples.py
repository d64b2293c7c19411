"""Piles and nets to try things on: all small ones, and great ones that are the same at each run."""

import itertools

WEIGHTS = (1, 2, 3, 5, 7, 11, 13, 17, 19)


def small_piles(many, height):
    """All piles of so many places, each of at most so many arrows."""
    each = [list(ends) for size in range(height + 1) for ends in itertools.product(range(many), repeat=size)]
    return [[list(pile) for pile in piles] for piles in itertools.product(each, repeat=many)]


class Dice:
    """A row of numbers that look thrown, the same ones in every run."""

    def __init__(self, seed):
        self.state = seed

    def throw(self, many):
        self.state = (self.state * 6364136223846793005 + 1442695040888963407) % 2 ** 64
        return (self.state >> 33) % many

    def order(self, size):
        return [self.throw(10 ** 9) for turn in range(size)]

    def weight(self, figures):
        """A number of just so many figures."""
        weight = 1 + self.throw(9)
        for turn in range(figures - 1):
            weight = 10 * weight + self.throw(10)
        return weight


def thrown_piles(dice, many, most):
    return [[dice.throw(many) for arrow in range(dice.throw(most + 1))] for place in range(many)]


def great_piles():
    dice = Dice(5)
    piles = [thrown_piles(dice, many, most) for many in range(1, 9) for most in (1, 4, 12) for turn in range(6)]
    piles += [[[dice.throw(many) for arrow in range(40)] for place in range(many)] for many in range(1, 9)]
    # With a root, so that full piles may leave trees.
    piles += [[[]] + [[dice.throw(many) for arrow in range(40)] for place in range(1, many)] for many in range(2, 9)]
    return piles


def piles_fitting(net, sizes):
    """All piles that fit the net, each place with arrows having as many as one of the sizes."""
    each = []
    for row in net:
        ends = [to for to, weight in row]
        each.append([pile for size in sizes for pile in itertools.product(ends, repeat=size)] if row else [()])
    return [[list(pile) for pile in piles] for piles in itertools.product(*each)]


def fitting_piles(dice, net, most):
    return [[row[dice.throw(len(row))][0] for arrow in range(1 + dice.throw(most))] if row else [] for row in net]


def small_nets():
    """All nets of one to three places, by which arrows there are; no two arrows weigh the same."""
    nets = []
    for many in (1, 2, 3):
        sets = [ends for size in range(many + 1) for ends in itertools.combinations(range(many), size)]
        for rows in itertools.product(sets, repeat=many):
            nets.append([[(to, WEIGHTS[3 * place + to]) for to in ends] for place, ends in enumerate(rows)])
    return nets


def full_net(many, roots, weight=1):
    return [[] if place in roots else [(to, weight) for to in range(many)] for place in range(many)]


def thrown_row(dice, many, figures):
    ends = [to for to in range(many) if dice.throw(3)] or [dice.throw(many)]
    return [(to, dice.weight(figures)) for to in ends]


def thrown_net(dice, many, roots, figures):
    return [[] if place in roots else thrown_row(dice, many, figures) for place in range(many)]


def great_nets(least, most):
    """Nets of so many places, without a root, with one and with two, light and heavy."""
    dice = Dice(7)
    nets = []
    for many in range(least, most + 1):
        for figures in (1, 9, 30):
            for roots in (0, 1, 2):
                nets.append(thrown_net(dice, many, [dice.throw(many) for root in range(roots)], figures))
    return nets


def rootless_nets():
    dice = Dice(9)
    return [thrown_net(dice, many, [], figures) for many in range(1, 9) for figures in (1, 9, 30) for turn in range(3)]
