"""Trees numbered and listed, in the order of the lists of their ends."""

from ringpop.changes import with_plain_weights, with_row
from ringpop.counts import many_of, shares_of
from ringpop.errors import NoNumber
from ringpop.nets import ends_of, is_number, roots_of
from ringpop.piles import tops_of
from ringpop.trees import check_tree


def many_below(shares, end):
    return sum([many for to, many in shares if to < end])


def end_at(shares, number):
    # An end that no tree has is never found first: it adds nothing to those below it.
    return [to for to, many in shares if number < many_below(shares, to) + many][0]


def tree_at(net, number):
    if not is_number(number) or not 0 <= number < many_of(net):
        raise NoNumber("no tree of the net has this number")
    tree = []
    left = number
    narrowed = with_plain_weights(net)
    for place, row in enumerate(net):
        if row == []:
            tree.append(None)
        else:
            shares = shares_of(narrowed, place)
            end = end_at(shares, left)
            tree.append(end)
            left = left - many_below(shares, end)
            narrowed = with_row(narrowed, place, [(end, 1)])
    return tree


def number_of(net, tree):
    check_tree(net, tree)
    number = 0
    narrowed = with_plain_weights(net)
    for place, end in enumerate(tree):
        if end is not None:
            number = number + many_below(shares_of(narrowed, place), end)
            narrowed = with_row(narrowed, place, [(end, 1)])
    return number


def leads_into(ends, settled):
    return any([to in settled for to in ends])


def settled_past(choices, place):
    settled = roots_of(choices)
    more = settled
    while more != []:
        others = [at for at in range(len(choices)) if at != place and at not in settled]
        more = [at for at in others if leads_into(choices[at], settled)]
        settled = settled + more
    return settled


def narrowed_at(choices, place):
    # From an end that is kept a root is reached past this place, and so from every other
    # place still, if from each it was: what is kept here leads to at least one tree.
    settled = settled_past(choices, place)
    return [with_row(choices, place, [to]) for to in choices[place] if to in settled]


# Listed by narrowing, not number by number: many trees are told so in much less time.
def trees_of(net):
    # A dead end at a late place would else be met only behind all that can stand ahead of it.
    if many_of(net) == 0:
        return []
    narrowed = [[ends_of(row) for row in net]]
    for place, row in enumerate(net):
        if row != []:
            wider = []
            for choices in narrowed:
                wider.extend(narrowed_at(choices, place))
            narrowed = wider
    return [tops_of(choices) for choices in narrowed]
