"""A text read sign by sign, as long as some right text begins so."""

from shutnames.errors import NoText
from shutnames.names import FIGURES, GREAT_LETTERS, MOST_SIGNS, SMALL_LETTERS
from shutnames.turns import rounds_of, turn_from


class Scanner:
    """A text, how many of its signs are read, and whether all turns in it are written as they should be."""

    def __init__(self, text):
        self.text = text
        self.at = 0
        self.right = True

    def sees(self, sign):
        """Whether this sign is the next one."""
        return self.text[self.at:self.at + 1] == sign

    def read(self, piece):
        """Read just these signs."""
        for sign in piece:
            if not self.sees(sign):
                raise NoText(self.at)
            self.at += 1

    def word(self, letters):
        """Read a short word of these letters and of figures, a letter ahead."""
        begin = self.at
        signs = letters
        while self.at < len(self.text) and self.at < begin + MOST_SIGNS and self.text[self.at] in signs:
            self.at += 1
            signs = letters + FIGURES
        if self.at == begin:
            raise NoText(begin)
        return self.text[begin:self.at]

    def end(self, right):
        """Refuse the text where signs are left, and then where it isn't right as a whole."""
        if self.at < len(self.text):
            raise NoText(self.at)
        if not right or not self.right:
            raise NoText(len(self.text))


def ring_scanned(scanner):
    """A round of a turn."""
    scanner.read("(")
    ring = [scanner.word(SMALL_LETTERS)]
    scanner.read(" ")
    ring.append(scanner.word(SMALL_LETTERS))
    while scanner.sees(" "):
        scanner.read(" ")
        ring.append(scanner.word(SMALL_LETTERS))
    scanner.read(")")
    return tuple(ring)


def turn_scanned(scanner):
    """A turn, perhaps without rounds; the scanner keeps whether they are those of a turn."""
    rings = []
    while scanner.sees("("):
        rings.append(ring_scanned(scanner))
    names = [name for ring in rings for name in ring]
    if len(set(names)) < len(names):
        scanner.right = False
        return ()
    turn = turn_from({name: to for ring in rings for name, to in zip(ring, ring[1:] + ring[:1])})
    if rounds_of(turn) != rings:
        scanner.right = False
    return turn


def begun_scanned(scanner, open_parts):
    """What a term begins with: a term without others in it, or None where a part is opened, which the list keeps."""
    if scanner.sees("["):
        scanner.read("[")
        open_parts.append(("shut", scanner.word(SMALL_LETTERS), []))
        scanner.read("]")
        return None
    if scanner.at < len(scanner.text) and scanner.text[scanner.at] in "(" + GREAT_LETTERS:
        turn = turn_scanned(scanner)
        return ("hole", turn, scanner.word(GREAT_LETTERS))
    name = scanner.word(SMALL_LETTERS)
    if not scanner.sees("("):
        return ("name", name)
    scanner.read("(")
    if scanner.sees(")"):
        scanner.read(")")
        return ("sign", name, ())
    open_parts.append(("sign", name, []))
    return None


def closed_scanned(scanner, open_parts, term):
    """The term, closing all open parts that end with it; None where a comma stands behind, for a part more."""
    while open_parts:
        kind, name, told = open_parts[-1]
        if kind == "sign" and scanner.sees(","):
            told.append(term)
            scanner.read(", ")
            return None
        if kind == "sign":
            scanner.read(")")
        term = (kind, name, tuple(told) + (term,)) if kind == "sign" else (kind, name, term)
        open_parts.pop()
    return term


def term_scanned(scanner):
    """A term."""
    # A list of what is open, for a text may open more parts than Python lets functions call one another.
    open_parts = []
    term = None
    while term is None:
        term = begun_scanned(scanner, open_parts)
        if term is not None:
            term = closed_scanned(scanner, open_parts, term)
    return term


def row_scanned(scanner, mark, one_scanned):
    """A tuple of one thing or more, each read by a function, with this mark and a blank between two."""
    things = [one_scanned(scanner)]
    while scanner.sees(mark):
        scanner.read(mark + " ")
        things.append(one_scanned(scanner))
    return tuple(things)


def fact_scanned(scanner):
    """A fact."""
    name = scanner.word(SMALL_LETTERS)
    scanner.read(" # ")
    return (name, scanner.word(GREAT_LETTERS))


def facts_scanned(scanner):
    """Facts, one or more, in any order."""
    return row_scanned(scanner, ",", fact_scanned)


def pair_scanned(scanner):
    """A hole and what it is filled with."""
    hole = scanner.word(GREAT_LETTERS)
    scanner.read(" := ")
    return (hole, term_scanned(scanner))


def pairs_scanned(scanner):
    """Pairs of a filling, one or more, in any order."""
    return row_scanned(scanner, ";", pair_scanned)
