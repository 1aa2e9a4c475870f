"""Asks kept that can all be met together, and the lots of asks that can and can't be."""

from shutnames.asking import check_ask, check_asks, holes_asked
from shutnames.errors import Clash, NoFilling
from shutnames.facts import met_by
from shutnames.fillings import is_plain_filling
from shutnames.keeping import check_kept
from shutnames.lots import all_lots, met_together, pared
from shutnames.making import answered
from shutnames.texts import ask_text


class Asks:
    """Asks kept under their numbers, and marks of how they were."""

    def __init__(self):
        self.kept = {}
        self.given = 0
        self.marks = {}
        self.marked = 0

    def put(self, ask):
        """Take in an ask that can be met together with those that are kept, and tell its number."""
        check_ask(ask)
        numbers, asks = self.numbers(), self.asks()
        if not met_together(asks + [ask]):
            raise Clash(tuple([numbers[at] for at in pared(asks, ask)]))
        self.kept[self.given] = ask
        self.given += 1
        return self.given - 1

    def take(self, number):
        """Let go the ask with this number."""
        check_kept(self.kept, number)
        self.kept.pop(number)

    def mark(self):
        """Mark how the asks are now, and tell the mark's number."""
        self.marks[self.marked] = dict(self.kept)
        self.marked += 1
        return self.marked - 1

    def back(self, number):
        """Make the asks again as they were at the mark, and forget those made later."""
        check_kept(self.marks, number)
        self.kept = dict(self.marks[number])
        self.marks = {mark: kept for mark, kept in self.marks.items() if mark <= number}

    def copied(self):
        """An Asks that is as this one, and goes on by itself."""
        asks = Asks()
        asks.kept = dict(self.kept)
        asks.given = self.given
        asks.marks = {mark: dict(kept) for mark, kept in self.marks.items()}
        asks.marked = self.marked
        return asks

    def numbers(self):
        """The rising list of the numbers that are kept."""
        return sorted(self.kept)

    def asks(self):
        """The asks that are kept, by their numbers."""
        return [self.kept[number] for number in self.numbers()]

    def answer(self):
        """The facts and the filling by which all asks are met."""
        return answered(self.asks(), ())[1:3]

    def meets(self, filling):
        """Whether a plain filling of all holes of the asks meets them all."""
        if not is_plain_filling(filling):
            raise NoFilling("this is no plain filling")
        put = dict(filling)
        if not all([hole in put for ask in self.asks() for hole in holes_asked(ask)]):
            raise NoFilling("a hole isn't filled")
        return all([met_by(ask, put) for ask in self.asks()])

    def __len__(self):
        return len(self.kept)

    def __eq__(self, other):
        # By texts, for Python compares tuples within one another by recursion, and terms put together may be deep.
        return isinstance(other, Asks) and self.numbers() == other.numbers() and str(self) == str(other)

    def __str__(self):
        return "\n".join([ask_text(ask) for ask in self.asks()])


def least_lots(asks):
    """The rising list of the least lots of the list's places whose asks can't be met together."""
    check_asks(asks)
    return all_lots(asks)[0]


def most_lots(asks):
    """The rising list of the greatest lots of the list's places whose asks can be met together."""
    check_asks(asks)
    return all_lots(asks)[1]
