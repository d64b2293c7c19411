"""Piles popped out in any order or by rounds, rings put back, and rings marked."""

from ringpop.piles import copied, rings_of, tops_of, without_tops


def top_rings(piles):
    return rings_of(tops_of(piles))


def number_at(order, turn):
    if order is None or turn >= len(order):
        return 0
    return order[turn]


def pop_out(piles, order=None):
    rings = []
    rest = copied(piles)
    found = top_rings(rest)
    while found:
        ring = found[number_at(order, len(rings)) % len(found)]
        rings.append(ring)
        rest = without_tops(rest, ring)
        found = top_rings(rest)
    return (rings, rest)


def put_back(piles, rings):
    whole = copied(piles)
    for ring in reversed(rings):
        for place, to in zip(ring, ring[1:] + ring[:1]):
            whole[place].insert(0, to)
    return whole


def marked_rings(rings):
    marked = []
    depths = {}
    for ring in rings:
        marked.append([(place, depths.get(place, 0)) for place in ring])
        for place in ring:
            depths[place] = depths.get(place, 0) + 1
    return sorted(marked)


def pop_rounds(piles):
    rounds = []
    rest = copied(piles)
    found = top_rings(rest)
    while found:
        rounds.append(found)
        # No two rings of the same tops have a place in common, so popping one
        # leaves the others as they are.
        for ring in found:
            rest = without_tops(rest, ring)
        found = top_rings(rest)
    return rounds
