"""Nets changed: another row at a place, plain weights, and a place taken out."""

from ringpop.errors import NoPlace
from ringpop.nets import ends_of, is_place, weight_to, weight_to_others


def with_row(net, place, row):
    return [list(row if at == place else old) for at, old in enumerate(net)]


def rooted_at(net, place):
    return with_row(net, place, [])


def plain_row(row):
    return [(to, 1) for to in ends_of(row)]


def with_plain_weights(net):
    return [plain_row(row) for row in net]


def lesser_number(at, taken):
    return at - 1 if at > taken else at


def lesser_row(row, taken_row, taken, many):
    factor = weight_to_others(taken_row, taken)
    arrows = []
    for to in range(many):
        by_way = weight_to(row, taken) * weight_to(taken_row, to)
        weight = factor * weight_to(row, to) + by_way
        if to != taken and weight > 0:
            arrows.append((lesser_number(to, taken), weight))
    return arrows


def less_place(net, place):
    many = len(net)
    if not is_place(place, many) or weight_to_others(net[place], place) == 0:
        raise NoPlace("this is no place of the net with an arrow to another one")
    return [lesser_row(row, net[place], place, many) for at, row in enumerate(net) if at != place]
