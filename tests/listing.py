"""The trees of a net one by one, found without the package's own ways."""

import itertools


# Found another way than by following roads: strip the places that are
# settled, from the roots outward, till nothing more is settled.
def settles(net, things):
    for row, thing in zip(net, things):
        if thing not in ([to for to, weight in row] or [None]):
            return False
    settled = [place for place, row in enumerate(net) if not row]
    for turn in net:
        settled += [place for place, to in enumerate(things) if to in settled and place not in settled]
    return len(settled) == len(net)


def listed_trees(net):
    """All trees, in the order of Python's lists."""
    ends = [[to for to, weight in row] or [None] for row in net]
    return sorted([list(tree) for tree in itertools.product(*ends) if settles(net, tree)])
