"""Terms, and what is told of them."""

import unittest

from shutnames.errors import NoPlace, NoTerm, NoTurn
from shutnames.terms import (holes_in, is_term, levels_of, names_in, part_at, parts_of, places_of, put_at, turned_term)

from things import (A, B, C, X, Y, all_holes, all_names, all_parts, deep, drawn, hole, inner, lead, many_odd, shut, sign,
                    some_term, some_turn)

SWAP = (("a", "b"), ("b", "a"))
MIXED = sign("f", shut("b", sign("g", A, hole("X", ("c", "d1")))), sign("h"), hole("Y", ("b", "z")), B)
SIX = sign("f", A, B, C, X, Y, shut("a", A))
TOWER = shut(["n" + str(at) for at in range(38)], sign("f", hole("X", ("a", "b"))))
WIDE = sign("f", *[sign("g", *[sign("h", *[A] * 5)] * 6)] * 5, hole("X"), *[A] * 5)
TERMS = [A, X, hole("X1Y", ("a", "b"), ("c", "d")), shut("a", X), sign("f"), sign("a", A), MIXED, SIX, TOWER, WIDE]
NO_TERMS = [
    ["name", "a"], ("name",), ("name", "a", "b"), ("name", "A"), ("name", ""), ("name", "abcdefghi"), ("name", None),
    ("name", ("a",)), ("name", []), ("named", "a"), ("Name", "a"), (None, "a"), (["name"], "a"), ({}, "a"), ("a", "name"),
    ["hole", (), "X"], ("hole", "X"), ("hole", (), "X", ()), ("hole", (), "x"), ("hole", (), ""), ("hole", (), "1X"),
    ("hole", (), "ABCDEFGHI"), ("hole", (), "Xa"), ("hole", (), None), ("hole", (), ["X"]), ("hole", [], "X"),
    ("hole", (("a", "b"),), "X"), ("hole", [("a", "b"), ("b", "a")], "X"), ("hole", (("a", "a"),), "X"),
    ("hole", (("b", "a"), ("a", "b")), "X"), ("hole", None, "X"), ("hole", (), A), ("holes", (), "X"),
    ["shut", "a", A], ("shut", "a"), ("shut", A), ("shut", "a", A, A), ("shut", "A", A), ("shut", A, A), ("shut", "a", None),
    ("shut", "a", ["name", "a"]), ("shut", "a", "a"), ("shut", "a", (A,)), ("shut", None, A), ("shuts", "a", A),
    ["sign", "f", ()], ("sign", "f"), ("sign", "f", [A]), ("sign", "f", [],), ("sign", "F", ()), ("sign", "", ()),
    ("sign", None, ()), ("sign", "f", A), ("sign", "f", (A, None)), ("sign", "f", (A, ["name", "b"])), ("sign", "f", None),
    ("sign", "f", (A,), ()), ("sign", "abcdefghi", ()), ("sign", "f", (("f", ()),)), ("sing", "f", ()), ("sign", "f", "a"),
    ("level", 0), ("shut", ("level", 0)), ("sign", "f", (("level", 1),)), ("shut", "a", ("level", 0)), ("shut", A),
    ("sign", "f", (A, ("shut", ("level", 0)))), A + B, (A,), "name", True, 1.5 > 1,
]


def put_by_hand(term, place, part):
    """The term with another part at the place, by recursion."""
    if not place:
        return part
    if term[0] == "shut":
        return ("shut", term[1], put_by_hand(term[2], place[1:], part))
    parts = list(term[2])
    parts[place[0]] = put_by_hand(parts[place[0]], place[1:], part)
    return ("sign", term[1], tuple(parts))


def wrapped(thing):
    """The thing where terms stand in a term."""
    return [("shut", "a", thing), ("sign", "f", (A, thing)), ("sign", "f", (thing, A)), shut("abc", sign("f", thing))]


class IsTerm(unittest.TestCase):
    def test_terms(self):
        for term in TERMS:
            self.assertIs(is_term(term), True, term)
            for whole in wrapped(term):
                self.assertIs(is_term(whole), True, whole)

    def test_no_terms(self):
        for thing in NO_TERMS:
            self.assertIs(is_term(thing), False, thing)
            for whole in wrapped(thing):
                self.assertIs(is_term(whole), False, whole)

    def test_odd_things(self):
        for thing in many_odd():
            self.assertIs(is_term(thing), False, thing)
            for whole in wrapped(thing):
                self.assertIs(is_term(whole), False, whole)
            for kind in ("name", "hole", "shut", "sign", thing):
                self.assertIs(is_term((kind, thing)), kind == "name" and thing in ("a", "name"))
                self.assertIs(is_term((kind, thing, thing)), False)
            self.assertIs(is_term(("hole", thing, "X")), thing == ())
            self.assertIs(is_term(("hole", (), thing)), thing == "X")
            self.assertIs(is_term(("shut", thing, A)), thing in ("a", "name"))
            self.assertIs(is_term(("sign", thing, ())), thing in ("a", "name"))
            self.assertIs(is_term(("sign", "f", thing)), thing == ())

    def test_deep_and_large(self):
        self.assertIs(is_term(deep(A, 38)), False)
        self.assertIs(is_term(("sign", "f", tuple([A] * 1400))), True)
        self.assertIs(is_term(("sign", "f", tuple([A] * 1400 + [["name", "a"]]))), False)
        self.assertIs(is_term(("sign", "f", [A] * 1400)), False)

    def test_drawn(self):
        chance = drawn(11)
        for _ in range(200):
            self.assertIs(is_term(some_term(chance, 6)), True)


class Counts(unittest.TestCase):
    def test_by_hand(self):
        self.assertEqual([parts_of(term) for term in (A, X, sign("f"), MIXED, SIX, TOWER)], [1, 1, 1, 8, 8, 40])
        self.assertEqual([levels_of(term) for term in (A, X, sign("f"), MIXED, SIX, TOWER)], [1, 1, 1, 4, 3, 40])
        self.assertEqual(parts_of(WIDE), 192)
        self.assertEqual(levels_of(WIDE), 4)

    def test_names_and_holes(self):
        self.assertEqual(names_in(MIXED), ["a", "b", "c", "d1", "z"])
        self.assertEqual(names_in(sign("q", sign("r"), X)), [])
        self.assertEqual(names_in(shut("x", A)), ["a", "x"])
        self.assertEqual(names_in(hole("X", ("d", "b"), ("z", "c"))), ["b", "c", "d", "z"])
        self.assertEqual(names_in(sign("f", B, A, B)), ["a", "b"])
        self.assertEqual(holes_in(MIXED), ["X", "Y"])
        self.assertEqual(holes_in(sign("f", Y, shut("a", X), hole("Y", ("a", "b")), Y)), ["X", "Y"])
        self.assertEqual(holes_in(A), [])

    def test_places(self):
        self.assertEqual(places_of(A), [()])
        self.assertEqual(places_of(X), [()])
        self.assertEqual(places_of(MIXED), [(), (0,), (0, 0), (0, 0, 0), (0, 0, 1), (1,), (2,), (3,)])

    def test_drawn(self):
        chance = drawn(12)
        for term in TERMS + [some_term(chance, 7) for _ in range(200)]:
            rows = all_parts(term)
            self.assertEqual(parts_of(term), len(rows))
            self.assertEqual(levels_of(term), 1 + max(len(place) for place, _ in rows))
            self.assertEqual(places_of(term), sorted(place for place, _ in rows))
            self.assertEqual(names_in(term), sorted(all_names(term)))
            self.assertEqual(holes_in(term), sorted(all_holes(term)))

    def test_told_terms_may_be_deep(self):
        term = A
        for _ in range(600):
            term = put_at(sign("f", B, shut("a", A)), (1, 0), term)
        self.assertEqual((parts_of(term), levels_of(term), names_in(term)), (1801, 1201, ["a", "b"]))
        self.assertEqual(part_at(term, (1, 0) * 600), A)
        self.assertEqual(levels_of(turned_term(SWAP, term)), 1201)


class Places(unittest.TestCase):
    def test_part_at(self):
        self.assertEqual(part_at(MIXED, ()), MIXED)
        self.assertEqual(part_at(MIXED, (0, 0, 1)), hole("X", ("c", "d1")))
        self.assertEqual(part_at(MIXED, (3,)), B)

    def test_put_at(self):
        self.assertEqual(put_at(A, (), X), X)
        self.assertEqual(put_at(shut("a", A), (0,), shut("b", Y)), shut("ab", Y))
        self.assertEqual(put_at(SIX, (5, 0), sign("g", A)), sign("f", A, B, C, X, Y, shut("a", sign("g", A))))

    def test_every_place(self):
        chance = drawn(13)
        for term in TERMS + [some_term(chance, 6) for _ in range(60)]:
            for place, part in all_parts(term):
                self.assertEqual(part_at(term, place), part)
                self.assertEqual(put_at(term, place, MIXED), put_by_hand(term, place, MIXED))
                self.assertEqual(put_at(term, place, part), term)
                for beyond in [-1, len(inner(part)), 10 ** 20, -10 ** 20]:
                    with self.assertRaises(NoPlace) as caught:
                        part_at(term, place + (beyond,))
                    self.assertEqual(caught.exception.place, place + (beyond,))
                    with self.assertRaises(NoPlace) as caught:
                        put_at(term, place + (beyond, 0), A)
                    self.assertEqual(caught.exception.place, place + (beyond, 0))

    def test_no_places(self):
        for term, place in [(A, (0,)), (X, (0,)), (sign("f"), (0,)), (shut("a", A), (1,)), (shut("a", A), (0, 0)),
                            (shut("a", A), (2,)), (SIX, (6,)), (SIX, (5, 1)), (SIX, (-1,)), (SIX, (0, 0)), (MIXED, (0, 0, 2))]:
            for call in (lambda: part_at(term, place), lambda: put_at(term, place, A)):
                with self.assertRaises(NoPlace) as caught:
                    call()
                self.assertEqual(caught.exception.place, place)
                self.assertNotIsInstance(caught.exception, NoTerm)


    def test_truths_and_other_things_are_no_numbers(self):
        for place in [(True,), (False,), ("0",), (None,), ((0,),), (0, True)]:
            with self.assertRaises(NoPlace):
                part_at(sign("f", shut("a", A), B), place)


class Turned(unittest.TestCase):
    def test_by_hand(self):
        self.assertEqual(turned_term(SWAP, A), B)
        self.assertEqual(turned_term(SWAP, C), C)
        self.assertEqual(turned_term(SWAP, shut("a", sign("a", A, B, C))), shut("b", sign("a", B, A, C)))
        self.assertEqual(turned_term(SWAP, X), hole("X", ("a", "b")))
        self.assertEqual(turned_term(SWAP, hole("X", ("a", "b"))), X)
        # The hole's own turn first: a to c, then on to c; b to a, c to b.
        self.assertEqual(turned_term(SWAP, hole("X", ("a", "c"))), ("hole", (("a", "c"), ("b", "a"), ("c", "b")), "X"))
        self.assertEqual(turned_term((), MIXED), MIXED)

    def test_drawn(self):
        chance = drawn(14)
        for _ in range(300):
            term, turn, other = some_term(chance, 6), some_turn(chance), some_turn(chance)
            self.assertEqual(turned_term(turn, term), lead(turn, term))
            self.assertEqual(turned_term(other, turned_term(turn, term)), lead(other, lead(turn, term)))


class Refusals(unittest.TestCase):
    def test_no_term(self):
        for thing in NO_TERMS + many_odd():
            for call in (parts_of, levels_of, names_in, holes_in, places_of):
                with self.assertRaises(NoTerm):
                    call(thing)
            for call in (lambda: part_at(thing, ()), lambda: part_at(thing, (-1,)), lambda: put_at(thing, (), A),
                         lambda: put_at(A, (), thing), lambda: put_at(A, (0,), thing), lambda: put_at(thing, (9,), thing),
                         lambda: turned_term((), thing), lambda: turned_term(SWAP, sign("f", thing))):
                with self.assertRaises(NoTerm):
                    call()

    def test_no_turn_ahead_of_no_term(self):
        for thing in many_odd() + [[], (("a", "b"),), (("a", "a"),), list(SWAP)]:
            if thing == ():
                continue
            for term in (A, None, ("name", "A"), thing):
                with self.assertRaises(NoTurn):
                    turned_term(thing, term)


class ToldListsAreTheAskersOwn(unittest.TestCase):
    def test_lists_changed(self):
        for call in (names_in, holes_in, places_of):
            first = call(MIXED)
            self.assertIs(type(first), list)
            kept = list(first)
            first.append("more")
            first[0] = None
            self.assertEqual(call(MIXED), kept)


if __name__ == "__main__":
    unittest.main()
