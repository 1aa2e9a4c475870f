"""Patterns matched with terms."""

import itertools
import unittest

from shutnames.errors import NoFacts, NotApart, NoTerm
from shutnames.facts import needs, needs_behind
from shutnames.fillings import filled
from shutnames.patterns import matched
from shutnames.terms import put_at

from test_fillings import NO_FACTS, odd_but
from test_terms import NO_TERMS
from things import (A, B, C, D, THREE, X, Y, Z, all_holes, all_parts, drawn, fill, hole, lead, many_odd, name, shut, sign,
                    some_facts, some_term, turn_moving)

AB, BC = hole("X", ("a", "b")), hole("X", ("b", "c"))
P, Q = hole("P"), hole("Q")
P_AB = hole("P", ("a", "b"))
AP, BP = (("a", "P"),), (("b", "P"),)


def fits(pattern, term, facts, asked, filling):
    """Whether the filling is one that may be told, by the words of the document."""
    needed, behind = needs(("alike", filled(pattern, filling), term)), needs_behind(asked, filling)
    return needed is not None and set(needed) <= set(facts) and behind is not None and set(behind) <= set(facts)


def candidates(pattern, term):
    """Fillings with parts of the term, led by the turns of three names: among them one that fits, where any does."""
    turns = [turn_moving(THREE, images) for images in itertools.permutations(THREE)]
    parts = [part for _, part in all_parts(term)]
    ends = [lead(turn, part) for at, part in enumerate(parts) if part not in parts[:at] for turn in turns]
    for terms in itertools.product(ends, repeat=len(all_holes(pattern))):
        yield tuple(zip(sorted(all_holes(pattern)), terms))


class Matched(unittest.TestCase):
    def checked(self, pattern, term, facts=(), asked=()):
        """What is told fits, and fills just the pattern's holes."""
        told = matched(pattern, term, facts=facts, asked=asked)
        if told is not None:
            self.assertIs(type(told), tuple)
            self.assertEqual([x for x, _ in told], sorted(all_holes(pattern)))
            self.assertTrue(fits(pattern, term, facts, asked, told), (pattern, term, facts, asked, told))
        return told

    def test_by_hand(self):
        for pattern, term, wanted in [
            (A, A, ()), (A, B, None), (shut("a", A), shut("b", B), ()), (shut("a", A), shut("b", A), None), (sign("f"), sign("f"), ()),
            (X, A, (("X", A),)), (X, Y, (("X", Y),)), (X, sign("f", Y, shut("a", A)), (("X", sign("f", Y, shut("a", A))),)),
            (sign("f", X), sign("f", A), (("X", A),)), (sign("f", X), sign("g", A), None), (sign("f", X), sign("f", A, A), None),
            (sign("f", X, Y), sign("f", A, B), (("X", A), ("Y", B))), (AB, sign("f", A, C), (("X", sign("f", B, C)),)),
            (("hole", (("a", "b"), ("b", "c"), ("c", "a")), "X"), sign("f", A, B, C), (("X", sign("f", C, A, B)),)),
            (AB, hole("Y", ("a", "c")), (("X", ("hole", (("a", "c"), ("b", "a"), ("c", "b")), "Y")),)),
            (A, P, None), (sign("f"), P, None), (shut("a", A), P, None), (sign("f", X), sign("f", P), (("X", P),)),
            (shut("a", X), A, None), (shut("a", X), sign("a", A), None), (sign("a", X), shut("a", A), None),
        ]:
            self.assertEqual(self.checked(pattern, term), wanted, (pattern, term))

    def test_hole_at_two_places(self):
        self.assertEqual(self.checked(sign("f", X, X), sign("f", A, A)), (("X", A),))
        self.assertIsNone(self.checked(sign("f", X, X), sign("f", A, B)))
        self.assertIsNotNone(self.checked(sign("f", X, X), sign("f", shut("a", A), shut("b", B))))
        self.assertIsNone(self.checked(sign("f", X, X), sign("f", shut("a", A), shut("b", A))))
        self.assertIsNotNone(self.checked(sign("f", X, sign("g", X, X)), sign("f", C, sign("g", C, C))))
        self.assertIsNone(self.checked(sign("f", X, sign("g", X, X)), sign("f", C, sign("g", C, B))))

    def test_hole_under_unlike_turns(self):
        self.assertEqual(self.checked(sign("f", X, AB), sign("f", A, B)), (("X", A),))
        self.assertEqual(self.checked(sign("f", AB, BC), sign("f", A, C)), (("X", B),))
        self.assertIsNone(self.checked(sign("f", X, AB), sign("f", A, A)))
        self.assertIsNotNone(self.checked(sign("f", X, AB), sign("f", C, C)))
        self.assertIsNotNone(self.checked(sign("f", AB, X), sign("f", shut("a", sign("g", A, C)), shut("b", sign("g", B, C)))))

    def test_hole_under_shuts(self):
        self.assertEqual(self.checked(shut("a", X), shut("a", sign("f", A, B))), (("X", sign("f", A, B)),))
        self.assertEqual(self.checked(shut("a", X), shut("b", sign("f", B, C))), (("X", sign("f", A, C)),))
        self.assertIsNone(self.checked(shut("a", X), shut("b", sign("f", B, A))))
        self.assertIsNotNone(self.checked(sign("f", shut("a", X), shut("b", AB)), sign("f", shut("c", C), shut("a", A))))
        self.assertIsNone(self.checked(sign("f", shut("a", X), shut("b", X)), sign("f", shut("a", A), shut("b", B))))
        self.assertIsNotNone(self.checked(sign("f", shut("a", X), shut("b", X)), sign("f", shut("a", C), shut("b", C))))
        self.assertIsNotNone(self.checked(sign("f", shut("a", X), X), sign("f", shut("d", D), A)))
        self.assertIsNone(self.checked(sign("f", shut("a", X), X), sign("f", shut("d", D), B)))

    def test_names_shut_otherwise(self):
        pattern = shut("ab", sign("f", X, A, B))
        self.assertEqual(self.checked(pattern, shut("ba", sign("f", sign("g", A, B), B, A))), (("X", sign("g", B, A)),))
        self.assertIsNone(self.checked(pattern, shut("ba", sign("f", C, A, B))))
        self.assertEqual(self.checked(pattern, shut("cd", sign("f", sign("g", D, C), C, D))), (("X", sign("g", B, A)),))
        self.assertIsNone(self.checked(pattern, shut("cd", sign("f", A, C, D))))
        self.assertIsNone(self.checked(shut("a", X), shut("b", A)))
        self.assertIsNotNone(self.checked(shut("a", X), shut("b", shut("a", A))))

    def test_terms_with_holes_under_facts(self):
        for facts, wanted in [((), False), (AP, True), (BP, False), (AP + BP, True), ((("a", "Q"),), False)]:
            self.assertIs(self.checked(shut("a", X), shut("b", P), facts) is not None, wanted)
            self.assertIs(self.checked(sign("f", X, shut("a", A)), sign("f", C, shut("a", A)), facts) is not None, True)
        for facts, wanted in [((), False), (AP, False), (BP, False), (AP + BP, True)]:
            self.assertIs(self.checked(sign("f", X, X), sign("f", P, P_AB), facts) is not None, wanted)
            self.assertIs(self.checked(sign("f", shut("a", X), shut("a", X)), sign("f", shut("a", P), shut("b", P)), facts)
                          is not None, wanted)
        self.assertIsNotNone(self.checked(sign("f", X, AB), sign("f", P, P_AB)))
        self.assertIsNotNone(self.checked(sign("f", shut("a", X), shut("b", AB)), sign("f", shut("a", P), shut("b", P_AB))))
        self.assertIsNone(self.checked(sign("f", X, X), sign("f", P, Q), (("a", "P"), ("a", "Q"))))
        self.assertIsNotNone(self.checked(shut("a", sign("f", X, A)), shut("b", sign("f", P, B)), AP))
        self.assertIsNone(self.checked(shut("a", sign("f", X, A)), shut("b", sign("f", P, B)), BP))

    def test_asked_facts(self):
        ax, bx = (("a", "X"),), (("b", "X"),)
        for pattern, term, facts, asked, wanted in [
            (X, A, (), ax, False), (X, B, (), ax, True), (X, shut("a", A), (), ax, True), (X, P, (), ax, False),
            (X, P, AP, ax, True), (X, P, BP, ax, False), (X, P_AB, AP, ax, False), (X, P_AB, BP, ax, True),
            (AB, A, (), ax, True), (AB, A, (), bx, False), (shut("a", X), shut("a", A), (), ax, False),
            (shut("a", X), shut("b", C), (), ax, True), (shut("a", X), shut("b", B), (), ax, False),
            (shut("a", X), shut("b", P), AP, ax, False), (shut("a", X), shut("b", P), AP + BP, ax, True),
            (sign("f", X, Y), sign("f", P, Q), AP, ax, True), (sign("f", X, Y), sign("f", P, Q), AP, (("a", "Y"),), False),
            (sign("f", X, Y), sign("f", A, A), (), ax, False), (sign("f", X, Y), sign("f", B, A), (), ax + (("b", "Y"),), True),
            (X, sign("f", P, Q), AP, ax, False), (X, sign("f", P, Q), (("a", "P"), ("a", "Q")), ax, True),
        ]:
            self.assertIs(self.checked(pattern, term, facts, asked) is not None, wanted, (pattern, term, facts, asked))

    def test_pattern_without_holes(self):
        for term, facts, wanted in [
            (shut("b", sign("f", B)), (), ()), (shut("b", sign("f", A)), (), None), (sign("f"), (), None), (P, AP, None),
            (shut("a", sign("f", A)), AP, ()),
        ]:
            self.assertEqual(self.checked(shut("a", sign("f", A)), term, facts), wanted)

    def test_what_fits_is_found(self):
        chance = drawn(91)
        seen = {"filling": 0, "facts lack": 0, "none": 0}
        while min(seen.values()) < 60:
            pattern = some_term(chance, 3, THREE, ["X", "Y"] if chance.random() < 0.3 else ["X"])
            holes = sorted(all_holes(pattern))
            inside = [(x, some_term(chance, 2, THREE, ["P", "Q"])) for x in holes]
            term = fill(pattern, inside) if chance.random() < 0.8 else some_term(chance, 3, THREE, ["P"])
            term = self.bent(chance, term)
            if len(all_parts(term)) > 7 or not holes:
                continue
            facts = some_facts(chance, THREE, ["P", "Q"])
            asked = tuple(fact for fact in some_facts(chance, THREE[:2], holes) if chance.random() < 0.4)
            told = self.checked(pattern, term, facts, asked)
            if told is None:
                for filling in candidates(pattern, term):
                    self.assertFalse(fits(pattern, term, facts, asked, filling), (pattern, term, facts, asked, filling))
            more = tuple((a, x) for a in THREE for x in ["P", "Q"])
            enough = matched(pattern, term, facts=tuple(sorted(more))) is not None
            seen["filling" if told is not None else "facts lack" if enough else "none"] += 1

    def bent(self, chance, term):
        """The term with turns put at holes and shut names changed, so that it perhaps needs facts."""
        for place, part in all_parts(term):
            if part[0] == "hole" and chance.random() < 0.3:
                term = put_at(term, place, hole(part[2], tuple(chance.sample(THREE, 2))))
            if part[0] == "shut" and chance.random() < 0.4:
                a, b = part[1], chance.choice(THREE)
                if a != b:
                    inside = [one for where, one in all_parts(term) if where == place][0][2]
                    term = put_at(term, place, shut(b, lead(hole("X", (a, b))[1], inside)))
        return term

    def test_two_fillings_are_alike_under_the_facts(self):
        chance = drawn(92)
        seen = 0
        while seen < 40:
            pattern, facts = some_term(chance, 3, THREE, ["X"]), some_facts(chance, THREE, ["P"])
            if not all_holes(pattern):
                continue
            term = self.bent(chance, fill(pattern, (("X", some_term(chance, 2, THREE, ["P"])),)))
            told = self.checked(pattern, term, facts)
            if told is None:
                continue
            seen += 1
            for filling in candidates(pattern, term):
                if fits(pattern, term, facts, (), filling):
                    needed = needs(("alike", dict(told)["X"], dict(filling)["X"]))
                    self.assertTrue(needed is not None and set(needed) <= set(facts))

    def test_wide_and_deep(self):
        pattern, term = X, P
        for _ in range(400):
            pattern, term = sign("f", shut("a", pattern), Y), sign("f", shut("b", term), C)
        self.assertEqual(matched(pattern, term, facts=(("a", "P"),)), (("X", P_AB), ("Y", C)))
        self.assertIsNone(matched(pattern, term))

    def test_facts_left_out_are_none(self):
        self.assertEqual(matched(X, P), matched(X, P, facts=(), asked=()))
        self.assertIsNone(matched(X, P, asked=(("a", "X"),)))


class Refusals(unittest.TestCase):
    def test_no_term(self):
        for thing in NO_TERMS + many_odd():
            for call in (lambda: matched(thing, A), lambda: matched(A, thing), lambda: matched(thing, thing, facts=None),
                         lambda: matched(thing, X, asked=None), lambda: matched(X, thing, facts=[], asked=[])):
                with self.assertRaises(NoTerm):
                    call()

    def test_not_apart(self):
        for pattern, term in [(X, X), (X, AB), (sign("f", X, Y), sign("f", A, Y)), (shut("a", X), X), (sign("f", Y), X), (Z, sign("g", Z))]:
            if pattern == sign("f", Y):
                self.assertIsNone(matched(pattern, term))
                continue
            for facts, asked in [((), ()), (None, ()), ((), None), ((), (("a", "Q"),)), ([], [])]:
                with self.assertRaises(NotApart):
                    matched(pattern, term, facts=facts, asked=asked)

    def test_no_facts(self):
        for thing in NO_FACTS + odd_but(()):
            for pattern, term in [(X, A), (A, B), (sign("f", X), P)]:
                for call in (lambda: matched(pattern, term, facts=thing), lambda: matched(pattern, term, asked=thing),
                             lambda: matched(pattern, term, facts=thing, asked=thing)):
                    with self.assertRaises(NoFacts):
                        call()

    def test_asked_of_other_holes(self):
        for pattern, asked in [(X, (("a", "Y"),)), (A, (("a", "X"),)), (X, (("a", "X"), ("b", "P"))), (sign("f", X, Y), (("a", "Z"),)),
                               (X, (("a", "P"),))]:
            for term in (A, P, sign("f", P, Q)):
                with self.assertRaises(NoFacts):
                    matched(pattern, term, asked=asked)
        self.assertIsNone(matched(sign("f", X, Y), A, asked=(("a", "X"), ("a", "Y"))))

    def test_facts_of_any_hole_are_taken(self):
        self.assertEqual(matched(X, A, facts=(("a", "W"), ("a", "X"))), (("X", A),))
        self.assertEqual(matched(X, name("q"), facts=(("q", "X"),), asked=(("a", "X"),)), (("X", name("q")),))


if __name__ == "__main__":
    unittest.main()
