"""Trees changed: one arrow exchanged at a time, from one tree to another."""

from ringpop.errors import MakesRing, NoArrow
from ringpop.nets import ends_of, is_end, is_place
from ringpop.piles import least_first
from ringpop.trees import check_tree, way_along


def with_end(tree, place, to):
    return tree[:place] + [to] + tree[place + 1:]


def closed_ring(tree, place, to):
    way = way_along(tree, to)
    # In a tree each way comes to a root, so a new ring goes through the changed place.
    if place not in way:
        return []
    return least_first([place] + way[:way.index(place)])


def exchange_in(net, tree, place, to):
    check_tree(net, tree)
    if not is_place(place, len(net)) or not is_end(net[place], to):
        raise NoArrow("the net has no such arrow")
    ring = closed_ring(tree, place, to)
    if ring != []:
        raise MakesRing(ring)
    return with_end(tree, place, to)


def ends_to_exchange(row, tree, place):
    return [to for to in ends_of(row) if to != tree[place] and closed_ring(tree, place, to) == []]


def exchanges_of(net, tree):
    check_tree(net, tree)
    exchanges = []
    for place, row in enumerate(net):
        exchanges.extend([(place, to) for to in ends_to_exchange(row, tree, place)])
    return exchanges


def exchanges_between(net, one, other):
    check_tree(net, one)
    check_tree(net, other)
    # The places nearest to the roots come first: from each new end onward the way is
    # then the other tree's road already, so it closes no ring.
    places = sorted(range(len(net)), key=lambda place: len(way_along(other, place)))
    return [(place, other[place]) for place in places if one[place] != other[place]]
