"""The refusals: one class for each, all under RingError."""


class RingError(ValueError):
    pass


class NoNet(RingError):
    pass


class NoTree(RingError):
    pass


class NoPiles(RingError):
    pass


class NoRing(RingError):
    pass


class NoPlace(RingError):
    pass


class NoNumber(RingError):
    pass


class NoArrow(RingError):
    pass


class MakesRing(RingError):
    def __init__(self, ring):
        RingError.__init__(self, "the exchange would close a ring")
        # A copy, so that the error shares no list with its maker.
        self.ring = list(ring)


class RanOut(RingError):
    def __init__(self, place):
        RingError.__init__(self, "a place that has arrows in the net ran out")
        self.place = place


class TooGreat(RingError):
    pass


class NoText(RingError):
    pass
