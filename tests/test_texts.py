"""How things are written."""

import unittest

from shutnames.errors import NoAsk, NoFacts, NoFilling, NoRule, NoTerm, NotClosed
from shutnames.rules import look_rule
from shutnames.texts import ask_text, facts_text, filling_text, rule_text, term_text, word_of
from shutnames.turns import rounds_of

from test_facts import NO_ASKS, some_ask
from test_fillings import NO_FACTS, NO_FILLINGS, odd_but
from test_rules import CLOSED, NO_RULES, UNCLOSED
from test_terms import NO_TERMS
from things import (A, B, C, FIVE, X, Y, Z, drawn, hole, many_odd, name, shut, sign, some_facts, some_filling, some_term)

TURN = (("a", "b"), ("b", "a"), ("c", "d"), ("d", "e"), ("e", "c"))
TERMS = [
    (A, "a"), (name("z9"), "z9"), (X, "X"), (hole("X1Y"), "X1Y"), (hole("X", ("a", "b")), "(a b)X"),
    (("hole", TURN, "X"), "(a b)(c d e)X"), (("hole", (("a", "c"), ("b", "a"), ("c", "b")), "X"), "(a c b)X"),
    (hole("Y", ("a", "d"), ("b", "c")), "(a d)(b c)Y"), (hole("Y", ("a1", "a"), ("a10", "a2")), "(a a1)(a10 a2)Y"),
    (shut("a", A), "[a]a"), (shut("ab", sign("f", A, X)), "[a][b]f(a, X)"), (sign("f"), "f()"), (sign("f", A), "f(a)"),
    (sign("f", A, shut("b", X)), "f(a, [b]X)"), (sign("f", sign("f"), sign("g", sign("h", A), B), C), "f(f(), g(h(a), b), c)"),
    (sign("a", A), "a(a)"), (shut("a", sign("a")), "[a]a()"), (sign("q2", hole("X", ("a", "b")), Y), "q2((a b)X, Y)"),
    (shut("b", hole("X", ("a", "b"))), "[b](a b)X"), (sign("f", A, B, C, X, Y, Z), "f(a, b, c, X, Y, Z)"),
]
FACTS = [((), "-"), ((("a", "X"),), "a # X"), ((("a", "X"), ("a", "Y"), ("b1", "X2")), "a # X, a # Y, b1 # X2")]
ASKS = [
    (("alike", A, B), "a = b"), (("alike", X, hole("X", ("a", "b"))), "X = (a b)X"), (("fresh", "a", X), "a # X"),
    (("fresh", "a", sign("f", A, hole("Y", ("a", "b")))), "a # f(a, (a b)Y)"),
    (("alike", shut("a", sign("f", A, X)), sign("g")), "[a]f(a, X) = g()"),
]
RULES = [
    (((), sign("f", X), X), "f(X) -> X"), (((), sign("f"), shut("a", A)), "f() -> [a]a"),
    (((("a", "X"),), shut("a", sign("app", X, sign("v", A))), X), "[a]app(X, v(a)) -> X if a # X"),
    (((("a", "X"), ("b", "Y")), shut("ab", sign("f", X, Y)), Y), "[a][b]f(X, Y) -> Y if a # X, b # Y"),
]
FILLINGS = [
    ((), "-"), ((("X", A),), "X := a"), ((("X", sign("f", A, B)), ("Y", X)), "X := f(a, b); Y := X"),
    ((("X", shut("a", A)), ("X1", hole("X", ("a", "b"))), ("Y", sign("g"))), "X := [a]a; X1 := (a b)X; Y := g()"),
]
WRITERS = [(term_text, TERMS), (facts_text, FACTS), (ask_text, ASKS), (rule_text, RULES), (filling_text, FILLINGS)]


def rounds(turn):
    return "".join("(" + " ".join(ring) + ")" for ring in rounds_of(turn))


def written(term):
    """The text of a term, by recursion."""
    kind = term[0]
    if kind == "name":
        return term[1]
    if kind == "hole":
        return rounds(term[1]) + term[2]
    if kind == "shut":
        return "[" + term[1] + "]" + written(term[2])
    return term[1] + "(" + ", ".join(written(part) for part in term[2]) + ")"


class Texts(unittest.TestCase):
    def test_by_hand(self):
        for writer, rows in WRITERS:
            for thing, text in rows:
                self.assertEqual(writer(thing), text)
                self.assertIs(type(writer(thing)), str)

    def test_drawn(self):
        chance = drawn(71)
        for _ in range(300):
            term, facts, filling = some_term(chance, 6), some_facts(chance), some_filling(chance, 4)
            self.assertEqual(term_text(term), written(term))
            self.assertEqual(facts_text(facts), ", ".join(a + " # " + x for a, x in facts) or "-")
            self.assertEqual(filling_text(filling), "; ".join(x + " := " + written(t) for x, t in filling) or "-")
            ask = some_ask(chance, 4, ["X", "Y"])
            wanted = " = ".join(written(t) for t in ask[1:]) if ask[0] == "alike" else ask[1] + " # " + written(ask[2])
            self.assertEqual(ask_text(ask), wanted)

    def test_rules(self):
        for rule in CLOSED + [one for one, _, _ in UNCLOSED]:
            facts, left, right = rule
            wanted = written(left) + " -> " + written(right) + (" if " + facts_text(facts) if facts else "")
            self.assertEqual(rule_text(rule), wanted)

    def test_unclosed_rules_are_written(self):
        rule = ((("b", "X"),), sign("f", A, X), shut("a", X))
        with self.assertRaises(NotClosed):
            look_rule(rule)
        self.assertEqual(rule_text(rule), "f(a, X) -> [a]X if b # X")

    def test_unlike_things_have_unlike_texts(self):
        chance = drawn(72)
        seen = {}
        for _ in range(3000):
            term = some_term(chance, 3, FIVE[:2], ["X"])
            self.assertEqual(seen.setdefault(term_text(term), term), term)

    def test_deep(self):
        term, text = X, "X"
        for _ in range(700):
            term, text = shut("a", sign("f", B, term)), "[a]f(b, " + text + ")"
        self.assertEqual(term_text(term), text)


class Words(unittest.TestCase):
    def test_by_hand(self):
        self.assertEqual(word_of(A), "41")
        self.assertEqual(word_of(name("b0")), "4210")
        self.assertEqual(word_of(X), "38")
        self.assertEqual(word_of(name("z9")), "5a19")
        self.assertEqual(word_of(sign("f")), "460809")
        self.assertEqual(word_of(sign("f", A, shut("b", X))), "4608410c003b423d3809")
        self.assertEqual(word_of(hole("X", ("a", "b"))), "084100420938")

    def test_each_sign(self):
        # From the blank on, the percent sign among them.
        row = " !\"#$" + chr(37) + "&'()*+,-./0123456789:;<=>?@ABCDEFGHIJKLMNOPQRSTUVWXYZ[\\]^_`abcdefghijklmnopqrstuvwxyz{|}~"
        figures = "0123456789abcdef"
        chance = drawn(73)
        for term in [one for one, _ in TERMS] + [some_term(chance, 5) for _ in range(100)]:
            places = [row.index(letter) for letter in written(term)]
            self.assertEqual(word_of(term), "".join(figures[at // 16] + figures[at - at // 16 * 16] for at in places))
            self.assertEqual(len(word_of(term)), 2 * len(term_text(term)))


class Refusals(unittest.TestCase):
    def test_refused(self):
        for writer, error, things in [
            (term_text, NoTerm, NO_TERMS + many_odd()), (word_of, NoTerm, NO_TERMS + many_odd()),
            (facts_text, NoFacts, NO_FACTS + odd_but(())), (ask_text, NoAsk, NO_ASKS + many_odd()),
            (rule_text, NoRule, NO_RULES + many_odd()), (filling_text, NoFilling, NO_FILLINGS + odd_but(())),
        ]:
            for thing in things:
                with self.assertRaises(error, msg=thing):
                    writer(thing)

    def test_what_is_another_thing(self):
        for thing in (A, X, (), ("alike", A, B), ((), sign("f"), A), (("X", A),), (("a", "X"),)):
            for writer, error, right in [
                (term_text, NoTerm, (A, X)), (facts_text, NoFacts, ((), (("a", "X"),))), (ask_text, NoAsk, (("alike", A, B),)),
                (rule_text, NoRule, (((), sign("f"), A),)), (filling_text, NoFilling, ((), (("X", A),))),
            ]:
                if thing not in right:
                    with self.assertRaises(error):
                        writer(thing)


if __name__ == "__main__":
    unittest.main()
