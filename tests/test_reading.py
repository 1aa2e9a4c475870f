"""Texts read, and how far wrong ones are right."""

import re
import unittest

from shutnames.errors import NoText
from shutnames.fillings import filled
from shutnames.reading import read_ask, read_facts, read_filling, read_rule, read_term, read_word
from shutnames.rules import look_rule
from shutnames.texts import ask_text, facts_text, filling_text, rule_text, term_text, word_of

from books import is_closed, some_book
from test_facts import some_ask
from test_rules import CLOSED, UNCLOSED
from test_texts import ASKS, FACTS, FILLINGS, RULES, TERMS
from things import A, FIVE, HOLES, X, drawn, hole, name, shut, sign, some_facts, some_filling, some_term

READERS = {"term": (read_term, term_text), "facts": (read_facts, facts_text), "ask": (read_ask, ask_text),
           "rule": (read_rule, rule_text), "filling": (read_filling, filling_text)}
RIGHT = {"term": TERMS, "facts": FACTS, "ask": ASKS, "rule": [row for row in RULES if is_closed(row[0])], "filling": FILLINGS}
SMALL, GREAT, FIGURES = "abcdefghijklmnopqrstuvwxyz", "ABCDEFGHIJKLMNOPQRSTUVWXYZ", "0123456789"
SIGNS = "a9Xz()[], #=->if:;$ %\n"


# What is written so, by trying all ways: a way is a text to stand there, a tuple of ways one behind the other,
# a list of ways of which one is gone, or the name of one of these.

WAYS = {
    "name": "SMALL", "hole": "GREAT", "fact": ("name", "' # '", "hole"), "more facts": ["''", ("', '", "fact", "more facts")],
    "some facts": ("fact", "more facts"), "facts": ["'-'", "some facts"], "more names": ["''", ("' '", "name", "more names")],
    "round": ("'('", "name", "' '", "name", "more names", "')'"), "rounds": ["''", ("round", "rounds")],
    "parts": ["''", ("', '", "term", "parts")],
    "term": ["name", ("rounds", "hole"), ("'['", "name", "']'", "term"), ("name", "'()'"), ("name", "'('", "term", "parts", "')'")],
    "ask": [("term", "' = '", "term"), ("name", "' # '", "term")],
    "rule": [("term", "' -> '", "term"), ("term", "' -> '", "term", "' if '", "some facts")],
    "pair": ("hole", "' := '", "term"), "more pairs": ["''", ("'; '", "pair", "more pairs")],
    "filling": ["'-'", ("pair", "more pairs")],
}


class Ways:
    """All ways to read a text, and how far the longest one of them comes."""

    def __init__(self, text):
        self.text = text
        self.far = 0
        self.known = {}

    def ends(self, way, at):
        """The set of places at which such a text may end that begins here."""
        if (str(way), at) not in self.known:
            self.known[str(way), at] = self.found(way, at)
        return self.known[str(way), at]

    def found(self, way, at):
        if isinstance(way, list):
            return set().union(*[self.ends(one, at) for one in way])
        if isinstance(way, tuple):
            places = {at}
            for one in way:
                places = set().union(*[self.ends(one, place) for place in places])
            return places
        if way in ("SMALL", "GREAT"):
            return self.words(SMALL if way == "SMALL" else GREAT, at)
        if way.startswith("'"):
            return self.pieces(way[1:-1], at)
        return self.ends(WAYS[way], at)

    def words(self, letters, at):
        places = set()
        for many in range(1, 9):
            word = self.text[at:at + many]
            if len(word) < many or word[0] not in letters or any(one not in letters + FIGURES for one in word):
                break
            self.far = max(self.far, at + many)
            places.add(at + many)
        return places

    def pieces(self, piece, at):
        for many in range(len(piece) + 1):
            if self.text[at:at + many] == piece[:many]:
                self.far = max(self.far, at + many)
        return {at + len(piece)} if self.text.startswith(piece, at) else set()


def turns_right(text):
    """Whether all rounds in a text that is written so are as rounds_of tells them."""
    for run in re.findall(r"(?:\([a-z0-9 ]+\))+(?=[A-Z])", text):
        rounds = [ring.split(" ") for ring in run[1:-1].split(")(")]
        names = [a for ring in rounds for a in ring]
        if len(set(names)) < len(names) or rounds != sorted(rounds) or any(min(ring) != ring[0] for ring in rounds):
            return False
    return True


def rising(things):
    return things == sorted(set(things))


def split_facts(text):
    return [tuple(fact.split(" # ")) for fact in text.split(", ")] if text != "-" else []


def right_so(kind, text):
    """Whether a text that is written so is right as a whole."""
    if not turns_right(text):
        return False
    if kind == "facts":
        return rising(split_facts(text))
    if kind == "filling":
        return text == "-" or rising([pair.partition(" := ")[0] for pair in text.split("; ")])
    if kind == "rule":
        sides, _, facts = text.partition(" if ")
        left, right = [read_term(side) for side in sides.split(" -> ")]
        return is_closed((tuple(split_facts(facts or "-")), left, right))
    return True


def far_by_hand(kind, text):
    """None where the text is right, else how many signs of it are."""
    ways = Ways(text)
    whole = len(text) in ways.ends(kind, 0)
    if whole:
        return None if right_so(kind, text) else len(text)
    return ways.far


def bent(chance, text, many):
    """Texts with a sign put in, left out or exchanged, cut off, or with something behind."""
    found = [text + more for more in (" ", "a", "X", "()", ", b # Y", "; Y := a", " if a # X", " -> X", "]")]
    for _ in range(many):
        at = chance.randrange(len(text) + 1)
        one = chance.choice(SIGNS)
        found += [text[:at] + one + text[at:], text[:at], text[:at] + text[at + 1:], text[:at] + one + text[at + 1:]]
    return found


class Read(unittest.TestCase):
    def test_by_hand(self):
        for kind, rows in RIGHT.items():
            for thing, text in rows:
                self.assertEqual(READERS[kind][0](text), thing)

    def test_what_the_writers_write(self):
        chance = drawn(301)
        for _ in range(150):
            term = some_term(chance, 6)
            ask, facts, filling = some_ask(chance, 4, HOLES), some_facts(chance), some_filling(chance, 3)
            for kind, thing in [("term", term), ("ask", ask), ("facts", facts), ("filling", filling)]:
                read, write = READERS[kind]
                self.assertEqual(read(write(thing)), thing)
            self.assertEqual(read_word(word_of(term)), term)
            for rule in some_book(chance):
                self.assertEqual(read_rule(rule_text(rule)), rule)
        for rule in CLOSED:
            self.assertEqual(read_rule(rule_text(rule)), rule)

    def test_plain_tuples(self):
        thing = read_rule("[a][b]f(X, (a b)(c d)Y) -> [b][a]g((a b)X) if c # Y, d # Y")
        self.assertIsNone(look_rule(thing))
        self.assertEqual([type(part) for part in (thing, thing[0], thing[0][0], thing[1], thing[1][2])], [tuple] * 5)

    def test_deep(self):
        for many in (200, 330):
            self.assertEqual(term_text(read_term("[a]" * many + "b")), "[a]" * many + "b")
            self.assertEqual(self.far(read_term, "[a]" * many), 3 * many)
            self.assertEqual(self.far(read_term, "[a]" * many + "b)"), 3 * many + 1)
        nested = "f(" * 12 + "a" + ", b)" * 12
        self.assertEqual(term_text(read_term(nested)), nested)
        told = read_term("f(" * 400 + "a" + ")" * 400)
        self.assertEqual(len(term_text(told)), 1201)

    def far(self, read, text):
        with self.assertRaises(NoText) as caught:
            read(text)
        return caught.exception.at


class Refused(unittest.TestCase):
    def checked(self, kind, text):
        """The field of the refusal, or None where the text is right, as trying all ways tells it."""
        read, write = READERS[kind]
        try:
            thing = read(text)
            self.assertEqual(write(thing), text)
            told = None
        except NoText as refusal:
            told = refusal.at
        self.assertEqual(told, far_by_hand(kind, text), (kind, text))
        return told

    def test_by_hand(self):
        for kind, text, at in [
            ("term", "", 0), ("term", " a", 0), ("term", "a ", 1), ("term", "A ", 1), ("term", "9", 0), ("term", "a9-", 2), ("term", "abcdefghi", 8),
            ("term", "ABCDEFGHI", 8), ("term", "a12345678", 8), ("term", "aB", 1), ("term", "Ab", 1), ("term", "[a]", 3), ("term", "[a", 2),
            ("term", "[A]a", 1), ("term", "[]a", 1), ("term", "[a] b", 3), ("term", "[a b]c", 2), ("term", "f(", 2), ("term", "f(a", 3),
            ("term", "f(a,", 4), ("term", "f(a,b)", 4), ("term", "f(a,  b)", 5), ("term", "f(a b)", 3), ("term", "f(a, )", 5), ("term", "f( a)", 2),
            ("term", "f(a ,b)", 3), ("term", "f(, a)", 2), ("term", "f())", 3), ("term", "f()()", 3), ("term", "f (a)", 1), ("term", "X(a)", 1),
            ("term", "(a)X", 2), ("term", "()X", 1), ("term", "(a b)", 5), ("term", "(a b)x", 5), ("term", "(a b) X", 5), ("term", "(a  b)X", 3),
            ("term", "(a b )X", 5), ("term", "( a b)X", 1), ("term", "(a, b)X", 2), ("term", "(A b)X", 1), ("term", "(a b", 4), ("term", "(a b)(", 6),
            ("term", "(a b)[a]X", 5), ("term", "(a b)f(X)", 5), ("term", "(b a)X", 6), ("term", "(a a)X", 6), ("term", "(a b)(b c)X", 11),
            ("term", "(c d)(a b)X", 11), ("term", "(a b a)X", 8), ("term", "(b a)X)", 6), ("term", "(b a)x", 5), ("term", "f((b a)X, Y", 11),
            ("term", "(a b)(a b)X", 11), ("term", "(a c b)X", None), ("term", "a#", 1), ("term", "$x", 0), ("term", "a\n", 1), ("term", "a, b", 1),
            ("facts", "", 0), ("facts", "--", 1), ("facts", "a", 1), ("facts", "a #", 3), ("facts", "a # x", 4), ("facts", "A # X", 0),
            ("facts", "a # X,", 6), ("facts", "a # X, ", 7), ("facts", "a # X,b # Y", 6), ("facts", "a # X, a # X", 12), ("facts", "b # X, a # X", 12),
            ("facts", "a # Y, a # X", 12), ("facts", "b # X, a # X, -", 14), ("facts", "a  # X", 2), ("facts", "a # X b", 5), ("facts", "-a", 1),
            ("facts", "a1 # X, a # X", 13), ("facts", "- ", 1), ("facts", "a # (a b)X", 4), ("facts", "a # X; b # X", 5), ("facts", "a = X", 2),
            ("ask", "", 0), ("ask", "a", 1), ("ask", "a ", 2), ("ask", "a =", 3), ("ask", "a = ", 4), ("ask", "a == b", 3), ("ask", "a=b", 1),
            ("ask", "X # a", 2), ("ask", "f() # a", 4), ("ask", "[a]a # a", 5), ("ask", "a # ", 4), ("ask", "a # b = c", 5), ("ask", "a = b = c", 5),
            ("ask", "a -> b", 2), ("ask", "(b a)X = X", 10), ("ask", "abcdefgh # X", None), ("ask", "abcdefghi # X", 8), ("ask", "a # (b a)X", 10),
            ("rule", "", 0), ("rule", "f(X)", 4), ("rule", "f(X) ", 5), ("rule", "f(X) -", 6), ("rule", "f(X) ->", 7), ("rule", "f(X) -> ", 8),
            ("rule", "f(X) - > X", 6), ("rule", "f(X) -> X ", 10), ("rule", "f(X) -> X if", 12), ("rule", "f(X) -> X if ", 13),
            ("rule", "f(X) -> X if -", 13), ("rule", "f(X) -> X iff a # X", 12), ("rule", "f(X) = X", 5), ("rule", "X -> X", 6), ("rule", "a -> a", 6),
            ("rule", "X -> X if", 9), ("rule", "f(X) -> Y", 9), ("rule", "f(X) -> Y if a # X,", 19), ("rule", "f(X) -> X if a # Y", 18),
            ("rule", "[a]X -> X", 9), ("rule", "[a]X -> X if a # X", None), ("rule", "[a]X -> X if b # X", 18), ("rule", "f(X) -> a", 9),
            ("rule", "f(a) -> p()", 11), ("rule", "f(X) -> X if b # X, a # X", 25), ("rule", "f(X) -> X if a # X, a # X", 25),
            ("rule", "f(X) -> X if a # X b", 18), ("rule", "f(X) -> X, Y", 9), ("rule", "f((b a)X) -> p()", 16), ("rule", "f(X)->X", 4),
            ("filling", "", 0), ("filling", "X", 1), ("filling", "X :", 3), ("filling", "X = a", 2), ("filling", "X := ", 5), ("filling", "X := a;", 7),
            ("filling", "X := a; ", 8), ("filling", "X := a;Y := b", 7), ("filling", "X := a, Y := b", 6), ("filling", "Y := a; X := b", 14),
            ("filling", "X := a; X := a", 14), ("filling", "x := a", 0), ("filling", "-X := a", 1), ("filling", "X := a; -", 8), ("filling", "(a b)X := a", 0),
            ("filling", "X := (b a)X", 11), ("filling", "X := (b a)X;", 12), ("filling", "X:= a", 1),
        ]:
            self.assertEqual(self.checked(kind, text), at, (kind, text))

    def test_right_texts_bent(self):
        chance = drawn(302)
        seen = 0
        for kind, rows in RIGHT.items():
            for _, text in rows:
                for wrong in bent(chance, text, 25):
                    seen += self.checked(kind, wrong) is not None
        self.assertGreater(seen, 2000)

    def test_each_sign_of_small_texts(self):
        for kind, text in [("term", "f(a, (a b)X)"), ("facts", "a # X, b # X"), ("ask", "[a]a = X"), ("ask", "a # X"), ("rule", "[a]X -> X if a # X"),
                           ("filling", "X := a; Y := b")]:
            for at in range(len(text) + 1):
                self.checked(kind, text[:at])
                self.checked(kind, text[:at] + text[at + 1:])
                for one in SIGNS:
                    self.checked(kind, text[:at] + one + text[at:])
                    self.checked(kind, text[:at] + one + text[at + 1:])

    def test_drawn_bent(self):
        chance = drawn(303)
        for _ in range(60):
            for kind, thing in [("term", some_term(chance, 4)), ("ask", some_ask(chance, 3, HOLES)), ("facts", some_facts(chance)),
                                ("filling", some_filling(chance, 2))]:
                for wrong in bent(chance, READERS[kind][1](thing), 3):
                    self.checked(kind, wrong)
            for rule in some_book(chance):
                for wrong in bent(chance, rule_text(rule), 3):
                    self.checked("rule", wrong)

    def test_texts_of_other_things(self):
        for kind in RIGHT:
            for other, rows in RIGHT.items():
                for _, text in rows:
                    self.checked(kind, text)

    def test_rules_that_are_not_closed(self):
        for rule, _, _ in UNCLOSED:
            text = rule_text(rule)
            self.assertEqual(self.checked("rule", text), len(text))

    def test_turns_written_otherwise(self):
        names = FIVE[:3]
        for one in names:
            for to in names:
                for third in names:
                    for text in (f"({one} {to})X", f"({one} {to} {third})X", f"({one} {to})({third} d)X", f"({third} d)({one} {to})X"):
                        self.checked("term", text)
                        self.checked("ask", f"g({text}) = [a]{text}")
                        self.checked("rule", f"g({text}) -> [a]p()")
                        self.checked("filling", f"X := {text}; Y := {text}")


class Words(unittest.TestCase):
    def test_read(self):
        self.assertEqual(read_word("41"), A)
        self.assertEqual(read_word("38"), X)
        self.assertEqual(read_word("3b413d42"), shut("a", name("b")))
        self.assertEqual(read_word("46084109"), sign("f", A))
        for term, _ in TERMS:
            self.assertEqual(read_word(word_of(term)), term)

    def test_refused(self):
        right = word_of(sign("f", A, hole("X", ("a", "b")), shut("k", name("k"))))
        wrong = ["", "4", "414", "4A", "4g", "  ", "41 ", " 41", "41\n", "0x41", "-41", "+4", "00", "ff", "60", "05", "4105", "7f", "80", "41" * 9,
                 "a", "41 41", "0", "08", "4608", "460841", "46080909", "ZZ", right.upper(), right[:-2], right[2:], right[1:],
                 right + "0", right + "00", right + right, "f(a)", "$x", word_of(A) + "0c00", "084200410938", "084100410938"]
        for text in wrong:
            with self.assertRaises(NoText, msg=text) as caught:
                read_word(text)
            self.assertEqual(caught.exception.at, len(text))
        self.assertEqual([read_word("46"), read_word("21")], [name("f"), hole("A")])

    def test_signs_bent(self):
        chance = drawn(304)
        for _ in range(300):
            text = word_of(some_term(chance, 3))
            at = chance.randrange(len(text) + 1)
            wrong = chance.choice([text[:at] + chance.choice("0123456789abcdefABg ") + text[at + 1:], text[:at], text + "41"])
            inside = bytes([32 + int(wrong[two:two + 2], 16) for two in range(0, len(wrong), 2)]).decode("latin-1") \
                if re.fullmatch("(?:[0-7][0-9a-f])*", wrong) else "%"
            if far_by_hand("term", inside) is None:
                self.assertEqual(term_text(read_word(wrong)), inside)
            else:
                with self.assertRaises(NoText) as caught:
                    read_word(wrong)
                self.assertEqual(caught.exception.at, len(wrong))

    def test_told_things_again(self):
        filling = read_filling("X := f(a, Y); Y := [a]a")
        self.assertEqual(term_text(filled(read_term("[a]X"), filling)), "[a]f(a, Y)")


if __name__ == "__main__":
    unittest.main()
