"""Trees of a net: one arrow for each place, such that every way comes to a root."""

from ringpop.errors import NoTree
from ringpop.nets import is_end


def fits_row(row, thing):
    if row == []:
        return thing is None
    return is_end(row, thing)


def way_along(ends, place):
    way = [place]
    # A way that comes to one of its own places again would never end.
    while ends[way[-1]] is not None and ends[way[-1]] not in way:
        way.append(ends[way[-1]])
    return way


def comes_to_root(ends, place):
    return ends[way_along(ends, place)[-1]] is None


def is_tree(net, things):
    if not isinstance(things, list) or len(things) != len(net):
        return False
    if not all([fits_row(row, thing) for row, thing in zip(net, things)]):
        return False
    return all([comes_to_root(things, place) for place in range(len(things))])


def check_tree(net, things):
    if not is_tree(net, things):
        raise NoTree("this is no tree of the net")


def road_of(net, tree, place):
    check_tree(net, tree)
    return way_along(tree, place)


def weight_of(net, tree):
    check_tree(net, tree)
    weight = 1
    for row, end in zip(net, tree):
        if end is not None:
            weight = weight * dict(row)[end]
    return weight
