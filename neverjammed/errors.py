"""The errors of the package: each keeps what it was made of, the objects themselves."""


class JamError(ValueError):
    """What all errors of the package have in common; it is raised nowhere itself."""


class Wrong(JamError):
    """The argument at this place is not as described."""

    def __init__(self, place):
        self.place = place


class NoText(JamError):
    """The line with this index is bad, or something lacks behind so many lines."""

    def __init__(self, line):
        self.line = line


class TooMany(JamError):
    """There are more than the most that are let."""

    def __init__(self, most):
        self.most = most


class NoneLet(JamError):
    """No split of the net is let, as the paper shows."""

    def __init__(self, paper):
        self.paper = paper


class Jammed(JamError):
    """The link may come to bear more than its room."""

    def __init__(self, link):
        self.link = link


class NoFlow(JamError):
    """There is no such flow."""

    def __init__(self, flow):
        self.flow = flow


class NoLink(JamError):
    """There is no such link."""

    def __init__(self, link):
        self.link = link


class NoOrder(JamError):
    """There is no order with this number."""

    def __init__(self, number):
        self.number = number


class NoCommand(JamError):
    """The line is no command."""

    def __init__(self):
        # ValueError's own constructor would take any arguments.
        pass
