"""What refusals are asked for: a class of their own, which RingError and ValueError take too."""

import copy

from ringpop.errors import RingError


def check_refused(test, error, function, *handed):
    """The refused thing comes behind a net or piles, which stay as they were, or stands alone."""
    before = copy.deepcopy(handed[0]) if len(handed) > 1 else None
    for kind in (error, RingError, ValueError):
        with test.assertRaises(kind) as caught:
            function(*handed)
        test.assertIs(type(caught.exception), error)
    if len(handed) > 1:
        test.assertEqual(handed[0], before)
