"""The refusals: one class for each, all under BeamError."""


class BeamError(ValueError):
    pass


class NoFraction(BeamError):
    pass


class NoCell(BeamError):
    pass


class NoTable(BeamError):
    pass


class NoPlace(BeamError):
    pass


class NoPass(BeamError):
    pass


class NoText(BeamError):
    pass


class NoMost(BeamError):
    pass


class NoStrength(BeamError):
    pass


class Loose(BeamError):
    pass


class Crossed(BeamError):
    pass


class NoRow(BeamError):
    pass


class Ring(BeamError):
    def __init__(self, ring):
        # Without words of its own the error would keep the very list that was handed in.
        BeamError.__init__(self, "a lamp stands in a ring that loses nothing")
        self.ring = list(ring)
