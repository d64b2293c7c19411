"""What answers are asked for: to be built anew, and to leave alone what was handed in."""

import copy


def lists_within(thing):
    if not isinstance(thing, (list, tuple)):
        return []
    found = [thing] if isinstance(thing, list) else []
    for part in thing:
        found += lists_within(part)
    return found


def check_sharing(test, function, *handed):
    """All lists of two answers and of what was handed in are different ones, and the latter stays."""
    before = copy.deepcopy(handed)
    one = function(*handed)
    other = function(*handed)
    test.assertEqual(handed, before)
    test.assertEqual(one, other)
    told = lists_within(one) + lists_within(other)
    test.assertEqual(len({id(thing) for thing in told}), len(told))
    test.assertFalse({id(thing) for thing in told} & {id(thing) for thing in lists_within(handed)})
    # Whatever is done to an answer shows nowhere else.
    for thing in lists_within(one):
        thing.clear()
    test.assertEqual(handed, before)
    test.assertEqual(function(*handed), other)
