"""The trees of a net one by one, found without the package's own ways."""

import itertools

from oddities import oddities


# Found another way than by following roads: strip the places that are
# settled, from the roots outward, till nothing more is settled.
def settles(net, things):
    for row, thing in zip(net, things):
        if thing not in ([to for to, weight in row] or [None]):
            return False
    settled = [place for place, row in enumerate(net) if not row]
    for turn in net:
        settled += [place for place, to in enumerate(things) if to in settled and place not in settled]
    return len(settled) == len(net)


def listed_trees(net):
    """All trees, in the order of Python's lists."""
    ends = [[to for to, weight in row] or [None] for row in net]
    return sorted([list(tree) for tree in itertools.product(*ends) if settles(net, tree)])


def no_trees(net):
    """Things that are no tree of the net: lists that are nearly one, and things of any sort."""
    trees = listed_trees(net)
    odd = oddities()
    ends = [None] + list(range(-1, len(net) + 1))
    lists = [list(things) for things in itertools.product(ends, repeat=len(net))]
    found = [things for things in lists if things not in trees]
    for tree in trees:
        found += [[], tree[:-1], tree + [None], tree + [0], tuple(tree), dict(enumerate(tree)), str(tree)]
        for place in range(len(net)):
            found += [tree[:place] + [thing] + tree[place + 1:] for thing in [[], [0], (), (0,), 0.0, "0"] + odd]
    return found + [None, 0, 1, len(net)] + odd
