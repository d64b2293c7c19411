"""Things of many sorts, none of which is a net, a tree, a row, a place or a weight."""


class EqualToAll:
    def __eq__(self, other):
        return True

    def __hash__(self):
        return 0


class EqualToNothing:
    def __eq__(self, other):
        raise RuntimeError("not to be compared")

    def __bool__(self):
        raise RuntimeError("not to be asked")

    def __len__(self):
        raise RuntimeError("not to be measured")

    def __repr__(self):
        raise RuntimeError("not to be shown")

    __hash__ = None


def list_in_itself():
    things = []
    things.append(things)
    return things


def deep_list():
    things = []
    for depth in range(100000):
        things = [things]
    return things


# None is left out: it is a right thing at a tree's root.
def oddities():
    return [
        True, False, 1.0, 0.5, float("nan"), float("inf"), 1j, "", "0", "a text",
        b"", b"01", bytearray(b"01"), {}, {0: 1}, set(), {1}, frozenset([0]), range(2),
        iter([[]]), (thing for thing in []), object(), object, list, int, len,
        lambda: 0, NotImplemented, Ellipsis, ValueError("x"), EqualToAll(), EqualToNothing(),
        -1, -10 ** 6000, 10 ** 6000,
        list_in_itself(), (list_in_itself(),), deep_list(),
    ]


# For where every place would do, and so each number from 0 on that is small enough.
def no_places():
    return [None, [], [0], [1], (), (0,), (1,), (0, 1), 0.0, 2.0, "1", 10 ** 29, -10 ** 29] + oddities()
