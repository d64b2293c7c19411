"""What all piles of one height leave, weighed by their arrows."""

from ringpop.counts import many_of
from ringpop.errors import TooGreat
from ringpop.numbers import trees_of
from ringpop.piles import tops_of
from ringpop.popping import pop_out

MOST_PILES = 500
MOST_TREES = 4000


def many_piles(net, height):
    many = 1
    for row in net:
        if row != []:
            for turn in range(height):
                many = many * len(row)
    return many


def one_longer(lists, things):
    longer = []
    for start, weight in lists:
        for thing, factor in things:
            longer.append((start + [thing], weight * factor))
    return longer


def piles_at(row, height):
    piles = [([], 1)]
    # A root has no arrows to choose from: its one pile is bare.
    if row != []:
        for turn in range(height):
            piles = one_longer(piles, row)
    return piles


def all_piles(net, height):
    whole = [([], 1)]
    for row in net:
        whole = one_longer(whole, piles_at(row, height))
    return whole


def sums_by_tops(weighed):
    sums = {}
    for piles, weight in weighed:
        tops = tuple(tops_of(pop_out(piles)[1]))
        sums[tops] = sums.get(tops, 0) + weight
    return sums


def left_by_all(net, height):
    if many_piles(net, height) > MOST_PILES:
        raise TooGreat("there are more than five hundred such piles")
    if many_of(net) > MOST_TREES:
        raise TooGreat("there are more than four thousand trees")
    sums = sums_by_tops(all_piles(net, height))
    left = [(tree, sums.get(tuple(tree), 0)) for tree in trees_of(net)]
    # Tops without rings that are no tree have a bare place with arrows.
    out = sum(sums.values()) - sum([many for tree, many in left])
    return (left, out)
