"""Piles of arrows, their tops, the rings of tops, and the popping of one ring."""

from ringpop.errors import NoPiles, NoRing
from ringpop.nets import is_end, is_number
from ringpop.trees import way_along

MOST_IN_PILE = 40


def pile_of(row, thing):
    if not isinstance(thing, list):
        raise NoPiles("a pile is no list")
    if len(thing) > MOST_IN_PILE:
        raise NoPiles("a pile has at most forty arrows")
    if not all([is_end(row, end) for end in thing]):
        raise NoPiles("a thing in a pile is no end of one of its place's arrows")
    return list(thing)


def piles_of(net, things):
    if not isinstance(things, list):
        raise NoPiles("piles are a list of piles")
    if len(things) != len(net):
        raise NoPiles("there is one pile for each place of the net")
    return [pile_of(row, thing) for row, thing in zip(net, things)]


def copied(piles):
    return [list(pile) for pile in piles]


def tops_of(piles):
    return [pile[0] if pile else None for pile in piles]


def rings_of(tops):
    ways = [way_along(tops, place) for place in range(len(tops))]
    # Each ring is met once from each of its places: the way from the least one
    # is taken, so the rings come sorted.
    return [way for way in ways if tops[way[-1]] == way[0] == min(way)]


def least_first(ring):
    at = ring.index(min(ring))
    return ring[at:] + ring[:at]


def is_ring(tops, thing):
    # Numbers are asked for ahead of `in`, which would also take what is merely
    # equal to a place, as True is to 1.
    if not isinstance(thing, list) or not all([is_number(place) for place in thing]):
        return False
    return thing in rings_of(tops)


def without_tops(piles, places):
    return [pile[1:] if place in places else list(pile) for place, pile in enumerate(piles)]


def pop_ring(piles, ring):
    if not is_ring(tops_of(piles), ring):
        raise NoRing("this is no ring of these tops")
    return without_tops(piles, ring)
