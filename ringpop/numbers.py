"""Trees numbered, in the order of the lists of their ends."""

from ringpop.changes import with_plain_weights, with_row
from ringpop.counts import many_of, shares_of
from ringpop.errors import NoNumber
from ringpop.nets import is_number
from ringpop.trees import check_tree


def many_below(shares, end):
    return sum([many for to, many in shares if to < end])


def end_at(shares, number):
    # An end that no tree has is never found first: it adds nothing to those below it.
    return [to for to, many in shares if number < many_below(shares, to) + many][0]


def tree_at(net, number):
    if not is_number(number) or not 0 <= number < many_of(net):
        raise NoNumber("no tree of the net has this number")
    tree = []
    left = number
    narrowed = with_plain_weights(net)
    for place, row in enumerate(net):
        if row == []:
            tree.append(None)
        else:
            shares = shares_of(narrowed, place)
            end = end_at(shares, left)
            tree.append(end)
            left = left - many_below(shares, end)
            narrowed = with_row(narrowed, place, [(end, 1)])
    return tree


def number_of(net, tree):
    check_tree(net, tree)
    number = 0
    narrowed = with_plain_weights(net)
    for place, end in enumerate(tree):
        if end is not None:
            number = number + many_below(shares_of(narrowed, place), end)
            narrowed = with_row(narrowed, place, [(end, 1)])
    return number
