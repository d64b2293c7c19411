"""Piles to try things on: all small ones, and great ones that are the same at each run."""

import itertools


def small_piles(many, height):
    """All piles of so many places, each of at most so many arrows."""
    each = [list(ends) for size in range(height + 1) for ends in itertools.product(range(many), repeat=size)]
    return [[list(pile) for pile in piles] for piles in itertools.product(each, repeat=many)]


class Dice:
    """A row of numbers that look thrown, the same ones in every run."""

    def __init__(self, seed):
        self.state = seed

    def throw(self, many):
        self.state = (self.state * 6364136223846793005 + 1442695040888963407) % 2 ** 64
        return (self.state >> 33) % many

    def order(self, size):
        return [self.throw(10 ** 9) for turn in range(size)]


def thrown_piles(dice, many, most):
    return [[dice.throw(many) for arrow in range(dice.throw(most + 1))] for place in range(many)]


def great_piles():
    dice = Dice(5)
    piles = [thrown_piles(dice, many, most) for many in range(1, 9) for most in (1, 4, 12) for turn in range(6)]
    piles += [[[dice.throw(many) for arrow in range(40)] for place in range(many)] for many in range(1, 9)]
    # With a root, so that full piles may leave trees.
    piles += [[[]] + [[dice.throw(many) for arrow in range(40)] for place in range(1, many)] for many in range(2, 9)]
    return piles
