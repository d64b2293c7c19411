"""The tree that piles leave, and piles regrown so that they leave another one."""

from ringpop.errors import RanOut
from ringpop.piles import tops_of
from ringpop.popping import pop_out, put_back
from ringpop.trees import check_tree


def tree_on(net, rest):
    tops = tops_of(rest)
    for place, row in enumerate(net):
        if row != [] and tops[place] is None:
            raise RanOut(place)
    return tops


def left_tree(net, piles):
    return tree_on(net, pop_out(piles)[1])


def with_top(pile, end):
    return pile if end is None else [end] + pile[1:]


def regrown_by(net, piles, tree):
    check_tree(net, tree)
    popped = pop_out(piles)
    # Asked for its refusal alone: piles that leave no tree can't be regrown.
    tree_on(net, popped[1])
    rest = [with_top(pile, end) for pile, end in zip(popped[1], tree)]
    return put_back(rest, popped[0])
