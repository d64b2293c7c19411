"""Trees counted: all of a net, plain or by their weights, and those that have an arrow."""

from ringpop.changes import with_plain_weights, with_row
from ringpop.errors import NoPlace
from ringpop.nets import is_place, weight_to, weight_to_others


def entry_of(row, place, to):
    return weight_to_others(row, place) if to == place else -weight_to(row, to)


def entries_of(row, place, places):
    return [entry_of(row, place, to) for to in places]


def table_of(net):
    places = [place for place, row in enumerate(net) if row != []]
    return [entries_of(net[place], place, places) for place in places]


def reduced_row(row, first, last):
    return [(first[0] * row[at] - row[0] * first[at]) // last for at in range(1, len(row))]


# The count is the determinant of the table (the matrix-tree theorem). It is found
# by an elimination in which every entry is itself a determinant of a part of the
# table, so that the division leaves no remainder.
def count_of(net):
    table = table_of(net)
    count = 1
    while table != []:
        first = table[0]
        # This is the count of the net with the places of the later rows as roots:
        # where even these can't be reached, the net has no tree.
        if first[0] == 0:
            return 0
        table = [reduced_row(row, first, count) for row in table[1:]]
        count = first[0]
    return count


def many_of(net):
    return count_of(with_plain_weights(net))


def shares_of(net, place):
    if not is_place(place, len(net)) or net[place] == []:
        raise NoPlace("this is no place of the net with arrows")
    # The trees that have an arrow are those of the net in which the place has no other.
    return [(arrow[0], count_of(with_row(net, place, [arrow]))) for arrow in net[place]]
