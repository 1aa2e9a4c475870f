"""A shelf of plain terms, on which alike ones stand once."""

from shutnames.alike import level_heads, leveled, named, told_form
from shutnames.errors import NoPaper, NoText
from shutnames.keeping import check_kept
from shutnames.names import is_number, rises
from shutnames.reading import read_term
from shutnames.terms import holes_within, turned
from shutnames.texts import written
from shutnames.turns import check_turn


def has_inside(heads, inner):
    """Whether a level form's list of heads has another one's in it, but not as the whole.

    Where it has, just the part there has these heads: and no level in it is that of a shut outside of it.
    """
    return any([heads[at:at + len(inner)] == inner for at in range(1, len(heads))])


class Shelf:
    """Plain terms kept under their numbers, each one with how often it is held."""

    def __init__(self):
        self.forms = {}
        self.often = {}
        self.places = {}
        self.given = 0

    def set_down(self, number, form, often):
        """Keep a told form under this number, held so often."""
        self.forms[number] = form
        self.often[number] = often
        self.places[written(form)] = number

    def put(self, term):
        """Hold the term once more, and tell its number."""
        form = told_form(term)
        number = self.places.get(written(form))
        if number is None:
            number = self.given
            self.given += 1
            self.set_down(number, form, 0)
        self.often[number] += 1
        return number

    def find(self, term):
        """The number under which an alike term is kept, or None."""
        return self.places.get(written(told_form(term)))

    def term_of(self, number):
        """The told form of the term under this number."""
        check_kept(self.forms, number)
        return self.forms[number]

    def held(self, number):
        """How often the term under this number is held."""
        check_kept(self.forms, number)
        return self.often[number]

    def let_go(self, number):
        """Hold the term under this number once less; at none it is gone."""
        check_kept(self.forms, number)
        self.often[number] -= 1
        if self.often[number] == 0:
            form = self.forms.pop(number)
            self.often.pop(number)
            self.places.pop(written(form))

    def numbers(self):
        """The rising list of the numbers that are kept."""
        return sorted(self.forms)

    def called(self, sign):
        """The rising list of the numbers of terms that are this sign with however many parts."""
        return [number for number in self.numbers() if self.forms[number][:2] == ("sign", sign)]

    def within(self, number):
        """The rising list of the numbers of terms with this one's term in them, none of its free names being shut."""
        check_kept(self.forms, number)
        inner = level_heads(self.forms[number])
        return [other for other in self.numbers() if has_inside(level_heads(self.forms[other]), inner)]

    def turned_all(self, turn):
        """Lead all names of the terms by the turn; numbers stay."""
        check_turn(turn)
        forms = [(number, named(leveled(turned(turn, self.forms[number])))) for number in self.forms]
        self.places = {}
        for number, form in forms:
            self.set_down(number, form, self.often[number])

    def packed(self):
        """The number that a new term would get, and all numbers with how often they are held and their texts."""
        rows = [(number, self.often[number], written(self.forms[number])) for number in self.numbers()]
        return (self.given, tuple(rows))

    def copied(self):
        """A shelf that is as this one, and goes on by itself."""
        shelf = Shelf()
        shelf.forms = dict(self.forms)
        shelf.often = dict(self.often)
        shelf.places = dict(self.places)
        shelf.given = self.given
        return shelf

    def __len__(self):
        return len(self.forms)

    def __eq__(self, other):
        return isinstance(other, Shelf) and self.packed() == other.packed()


def form_read(text):
    """The told form of which a thing is the text; None where it is none."""
    if not isinstance(text, str):
        return None
    try:
        term = read_term(text)
    except NoText:
        return None
    if holes_within(term) or written(named(leveled(term))) != text:
        return None
    return term


def is_row(thing):
    """Whether a thing is written as a row of a packed shelf."""
    if not isinstance(thing, tuple) or len(thing) != 3:
        return False
    number, often, text = thing
    return is_number(number) and number >= 0 and is_number(often) and often >= 1 and form_read(text) is not None


def is_paper(thing):
    """Whether a thing is a packed shelf."""
    if not isinstance(thing, tuple) or len(thing) != 2 or not is_number(thing[0]) or not isinstance(thing[1], tuple):
        return False
    given, rows = thing
    if not all([is_row(row) for row in rows]):
        return False
    numbers = [number for number, _, _ in rows]
    texts = [text for _, _, text in rows]
    return rises(numbers + [given]) and given >= 0 and len(set(texts)) == len(texts)


def unpacked(paper):
    """The shelf that is packed so."""
    if not is_paper(paper):
        raise NoPaper("this is no packed shelf")
    shelf = Shelf()
    shelf.given = paper[0]
    for number, often, text in paper[1]:
        shelf.set_down(number, form_read(text), often)
    return shelf
