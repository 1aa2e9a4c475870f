"""What the program refuses, one class for each kind of refusal."""


class ShutError(ValueError):
    """Any refusal but Missing."""


class NoName(ShutError):
    """A thing is no name, or stands twice where names stand once."""


class NoTurn(ShutError):
    """A thing is no turn."""


class NoTerm(ShutError):
    """A thing is no term."""


class HasHoles(ShutError):
    """A term isn't plain."""


class NoFilling(ShutError):
    """A thing is no filling, or isn't one of the kind that is asked for."""


class NoFacts(ShutError):
    """A thing is no tuple of facts."""


class NoAsk(ShutError):
    """A thing is no ask."""


class NotApart(ShutError):
    """Two terms have a hole in common."""


class NoRule(ShutError):
    """A thing is no rule."""


class NoWeighing(ShutError):
    """A thing is no weighing, or lacks a sign."""


class NoPaper(ShutError):
    """A thing is no packed shelf."""


class NoLine(ShutError):
    """A line at the desk is none of its lines."""


class NoUndo(ShutError):
    """There is nothing to undo."""


class NoPlace(ShutError):
    """A term has no such place."""

    def __init__(self, place):
        ShutError.__init__(self, "the term has no such place")
        self.place = place


class BadStep(ShutError):
    """The step with this number can't be done."""

    def __init__(self, at):
        ShutError.__init__(self, "a step can't be done")
        self.at = at


class Clash(ShutError):
    """An ask can't be met together with these that are kept."""

    def __init__(self, lot):
        ShutError.__init__(self, "the ask can't be met together with those that are kept")
        self.lot = lot


class NotClosed(ShutError):
    """A rule isn't closed, for this name and this hole (or None)."""

    def __init__(self, name, hole):
        ShutError.__init__(self, "the rule isn't closed")
        self.name = name
        self.hole = hole


class TooLong(ShutError):
    """More would be needed than this bound lets."""

    def __init__(self, most):
        ShutError.__init__(self, "the bound is too small")
        self.most = most


class NotGood(ShutError):
    """A book of rules isn't good: this is its verdict."""

    def __init__(self, verdict):
        ShutError.__init__(self, "the verdict of the rules isn't good")
        self.verdict = verdict


class NoText(ShutError):
    """A text isn't the text of such a thing: so many signs of it are right."""

    def __init__(self, at):
        ShutError.__init__(self, "the text is none of such a thing")
        self.at = at


class Missing(KeyError):
    """Nothing is kept under this number."""

    def __init__(self, number):
        KeyError.__init__(self, "nothing is kept under this number")
        self.number = number
