"""Nets, piles and trees written as texts, and read again."""

from ringpop.errors import NoNet, NoPiles, NoText, NoTree
from ringpop.nets import net_of
from ringpop.piles import piles_of
from ringpop.trees import check_tree

BETWEEN_PARTS = "; "
BETWEEN_WORDS = " "
NOTHING = "-"
FIGURES = "0123456789"
MOST_FIGURES = 30


def split_text(text, between):
    if not isinstance(text, str):
        raise NoText("this is no text")
    return text.split(between)


# Figures are looked at one by one: Python's int would also read other digits,
# blanks, signs and noughts ahead.
def number_in(word):
    if not 1 <= len(word) <= MOST_FIGURES or not all([sign in FIGURES for sign in word]):
        raise NoText("a number is written by one to thirty figures")
    if word[0] == "0" and word != "0":
        raise NoText("a number has a nought ahead")
    return int(word)


def arrow_in(word):
    halves = word.partition("*")
    if halves[1] == "":
        return (number_in(word), 1)
    weight = number_in(halves[2])
    if weight < 2:
        raise NoText("a weight is written where it is above 1 alone")
    return (number_in(halves[0]), weight)


def end_in(word):
    return None if word == NOTHING else number_in(word)


def things_in(part, read_word):
    if part == NOTHING:
        return []
    return [read_word(word) for word in part.split(BETWEEN_WORDS)]


def lists_in(text, read_word):
    return [things_in(part, read_word) for part in split_text(text, BETWEEN_PARTS)]


def read_net(text):
    rows = lists_in(text, arrow_in)
    try:
        return net_of(rows)
    except NoNet:
        raise NoText("the text writes no net")


def read_piles(net, text):
    ends = lists_in(text, number_in)
    try:
        return piles_of(net, ends)
    except NoPiles:
        raise NoText("the text writes no piles that fit the net")


def read_tree(net, text):
    ends = [end_in(word) for word in split_text(text, BETWEEN_WORDS)]
    try:
        check_tree(net, ends)
    except NoTree:
        raise NoText("the text writes no tree of the net")
    return ends


# Python's str refuses numbers of some thousand figures, which weights of nets that
# lost places may have: so it gets sixty figures at a time.
def show_number(number):
    block = 10 ** 60
    pieces = []
    left = number
    while left >= block:
        pieces.append(str(left % block).zfill(60))
        left = left // block
    pieces.append(str(left))
    return "".join(reversed(pieces))


def show_arrow(arrow):
    to = show_number(arrow[0])
    weight = show_number(arrow[1])
    return to if arrow[1] == 1 else f"{to}*{weight}"


def show_end(end):
    return NOTHING if end is None else show_number(end)


def show_things(things, show_word):
    if things == []:
        return NOTHING
    return BETWEEN_WORDS.join([show_word(thing) for thing in things])


def show_lists(lists, show_word):
    return BETWEEN_PARTS.join([show_things(things, show_word) for things in lists])


def show_net(net):
    return show_lists(net, show_arrow)


def show_piles(piles):
    return show_lists(piles, show_number)


def show_tree(tree):
    return BETWEEN_WORDS.join([show_end(end) for end in tree])
