"""Walks along the tops, which lose their rings on the way."""

from ringpop.piles import copied, least_first, without_tops


class Walker:
    def __init__(self, piles):
        self.roads = []
        self.rings = []
        self.rest = copied(piles)

    def ends_at(self, place):
        return self.rest[place] == [] or any([place in road for road in self.roads])

    def lose(self, ring):
        self.rings.append(least_first(ring))
        self.rest = without_tops(self.rest, ring)

    def walk_from(self, start):
        road = [start]
        while not self.ends_at(road[-1]):
            to = self.rest[road[-1]][0]
            if to in road:
                at = road.index(to)
                self.lose(road[at:])
                road = road[:at + 1]
            else:
                road.append(to)
        self.roads.append(road)


def walk_out(piles, starts=None):
    asked = [] if starts is None else list(starts)
    others = [place for place in range(len(piles)) if place not in asked]
    walker = Walker(piles)
    for start in asked + others:
        walker.walk_from(start)
    return (walker.roads, walker.rings, walker.rest)
