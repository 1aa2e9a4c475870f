"""Terms made alike: the widest filling that meets asks, or steps that show that there is none."""

from shutnames.asking import check_asks, comes_of
from shutnames.errors import BadStep
from shutnames.fillings import check_facts, filled_by, is_filling
from shutnames.names import is_number
from shutnames.terms import holes_within, turned
from shutnames.texts import filling_written
from shutnames.turns import undone


def filling_asked(ask, side):
    """The hole on this side of the ask, and what it is filled with; None where a step fills none there."""
    kind, one, other = ask
    if kind != "alike":
        return None
    if side == 1:
        one, other = other, one
    if one[0] != "hole" or one[2] in holes_within(other):
        return None
    return (one[2], turned(undone(one[1]), other))


def filled_ask(put, ask):
    """The ask filled by a dict from holes to terms."""
    kind, one, other = ask
    return (kind, filled_by(put, one) if kind == "alike" else one, filled_by(put, other))


class Standing:
    """The asks that are still to be met, and the facts and the filling come to so far."""

    def __init__(self, asks, facts):
        self.waiting = asks + [("fresh", name, ("hole", (), hole)) for name, hole in facts]
        self.barred = {}
        self.terms = {}

    def facts(self):
        """The facts come to."""
        return tuple(sorted(self.barred))

    def filling(self):
        """The filling come to."""
        return tuple([(hole, self.terms[hole]) for hole in sorted(self.terms)])

    def fill(self, hole, term):
        """Fill the hole wherever it stands; the term must meet its facts anew."""
        put = {hole: term}
        again = [("fresh", name, term) for name, barred in self.facts() if barred == hole]
        self.waiting = [filled_ask(put, ask) for ask in self.waiting] + again
        self.barred = {fact: True for fact in self.barred if fact[1] != hole}
        self.terms = {other: filled_by(put, self.terms[other]) for other in self.terms}
        self.terms[hole] = term

    def do(self, at, side):
        """Do the step with the ask of this number at this side; tell whether it can be done."""
        ask = self.waiting[at]
        comes = comes_of(ask) if side == 0 else None
        if comes is not None:
            self.waiting.pop(at)
            self.waiting.extend(comes[1])
            for fact in comes[0]:
                self.barred[fact] = True
            return True
        found = filling_asked(ask, side)
        if found is not None:
            self.waiting.pop(at)
            self.fill(found[0], found[1])
        return found is not None


def is_step(thing, many):
    """Whether a thing is written as a step with one of so many asks."""
    if not isinstance(thing, tuple) or len(thing) != 2 or not all([is_number(part) for part in thing]):
        return False
    return 0 <= thing[0] < many and 0 <= thing[1] <= 1


def bad_step(standing, steps):
    """Do the steps one after the other; tell the number of the first one that can't be done, or None."""
    for number, step in enumerate(steps):
        if not is_step(step, len(standing.waiting)) or not standing.do(step[0], step[1]):
            return number
    return None


def walked(asks, steps, *, facts=()):
    """The standing behind a list of steps."""
    check_asks(asks)
    check_facts(facts)
    standing = Standing(asks, facts)
    bad = bad_step(standing, steps)
    if bad is not None:
        raise BadStep(bad)
    return (standing.waiting, standing.facts(), standing.filling())


def answered(asks, facts):
    """What made tells of a list of asks and of facts that are known to be such."""
    standing = Standing(asks, facts)
    steps = []
    while standing.waiting:
        # The last ask first: what comes of it is met before other asks come apart, and so few asks wait at a time.
        at = len(standing.waiting) - 1
        if standing.do(at, 0):
            steps.append((at, 0))
        elif standing.do(at, 1):
            steps.append((at, 1))
        else:
            return ("never", steps, at)
    return ("made", standing.facts(), standing.filling(), steps)


def made(asks, *, facts=()):
    """How asks can be met: by facts and a filling, with steps that lead there; or never, with steps to a clash."""
    check_asks(asks)
    check_facts(facts)
    return answered(asks, facts)


def is_clash(ask):
    """Whether no step can be done with the ask."""
    return comes_of(ask) is None and filling_asked(ask, 0) is None and filling_asked(ask, 1) is None


def is_met(standing, facts, filling):
    """Whether the standing has no asks, and just what is told as facts and filling, whatever these are."""
    if standing.waiting or facts != standing.facts() or not is_filling(filling):
        return False
    # Texts, for Python compares tuples within one another by recursion, and terms put together may be deep.
    return filling_written(filling) == filling_written(standing.filling())


def clashes(standing, at):
    """Whether a thing is the number of an ask of the standing that is a clash."""
    return is_number(at) and 0 <= at < len(standing.waiting) and is_clash(standing.waiting[at])


def steps_told(answer):
    """The list of steps of a thing that is written as made tells, as far as its kind goes; else None."""
    if not isinstance(answer, tuple):
        return None
    if len(answer) == 4 and answer[0] == "made":
        steps = answer[3]
    elif len(answer) == 3 and answer[0] == "never":
        steps = answer[1]
    else:
        return None
    return steps if isinstance(steps, list) else None


def lets(asks, answer, *, facts=()):
    """Whether a thing is such a tuple as made tells of the asks and facts."""
    check_asks(asks)
    check_facts(facts)
    steps = steps_told(answer)
    standing = Standing(asks, facts)
    if steps is None or bad_step(standing, steps) is not None:
        return False
    return is_met(standing, answer[1], answer[2]) if answer[0] == "made" else clashes(standing, answer[2])
