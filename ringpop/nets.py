"""Nets: places with their weighted arrows, and their roots."""

from ringpop.errors import NoNet

MOST_PLACES = 8


def is_number(thing):
    # Python holds True and False for ints, but here they stand for no number.
    return isinstance(thing, int) and not isinstance(thing, bool)


def is_place(thing, many):
    return is_number(thing) and 0 <= thing < many


def is_arrow(thing, many):
    if not isinstance(thing, tuple) or len(thing) != 2:
        return False
    return is_place(thing[0], many) and is_number(thing[1]) and thing[1] >= 1


def ends_of(row):
    return [arrow[0] for arrow in row]


def is_end(row, thing):
    # Asked ahead of `in`, which would also take what is merely equal to an end.
    return is_number(thing) and thing in ends_of(row)


def weight_to(row, to):
    return dict(row).get(to, 0)


def weight_to_others(row, place):
    return sum([weight for to, weight in row if to != place])


# The words of a refusal never show the thing itself: a thing of any sort may
# fail to be shown, as a number of too many figures does.
def row_of(thing, many):
    if not isinstance(thing, list):
        raise NoNet("a row is no list")
    row = []
    for arrow in thing:
        if not is_arrow(arrow, many):
            raise NoNet("an arrow is no tuple of a place and a weight from 1 on")
        if row and arrow[0] <= row[-1][0]:
            raise NoNet("the ends of a row don't rise")
        row.append((arrow[0], arrow[1]))
    return row


def net_of(things):
    if not isinstance(things, list):
        raise NoNet("a net is a list of rows")
    many = len(things)
    if not 1 <= many <= MOST_PLACES:
        raise NoNet("a net has one to eight places")
    return [row_of(thing, many) for thing in things]


def roots_of(net):
    return [place for place, row in enumerate(net) if row == []]
