"""What must be known of holes, and fillings that part asks."""

import itertools
import unittest

from shutnames.alike import are_alike, free_names
from shutnames.errors import NoAsk, NoFacts, NoFilling
from shutnames.facts import holds, needs, needs_behind, parts_it
from shutnames.fillings import filled, keeps, then_filling

from test_fillings import NO_FACTS, NO_FILLINGS, odd_but
from things import (A, B, C, THREE, X, Y, Z, all_holes, drawn, fill, hole, kept, met, name, plain_fillings, shut, sign,
                    some_facts, some_filling, some_term)

AB, BC = hole("X", ("a", "b")), hole("X", ("b", "c"))
NEEDS = [
    (("alike", A, A), ()), (("alike", A, B), None), (("alike", X, X), ()), (("alike", X, Y), None), (("alike", X, A), None),
    (("alike", A, X), None), (("alike", X, AB), (("a", "X"), ("b", "X"))), (("alike", AB, BC), (("a", "X"), ("b", "X"), ("c", "X"))),
    (("alike", AB, hole("Y", ("a", "b"))), None), (("alike", shut("a", X), shut("b", X)), (("a", "X"), ("b", "X"))),
    (("alike", shut("a", X), shut("b", AB)), (("b", "X"),)), (("alike", shut("a", X), shut("a", X)), ()),
    (("alike", shut("a", X), shut("a", AB)), (("a", "X"), ("b", "X"))), (("alike", shut("a", X), shut("b", Y)), None),
    (("alike", shut("a", A), shut("b", B)), ()), (("alike", shut("a", A), shut("b", A)), None),
    (("alike", shut("a", C), shut("b", C)), ()), (("alike", shut("a", B), shut("b", A)), None),
    (("alike", shut("ab", sign("f", X, A)), shut("ba", sign("f", AB, B))), ()),
    (("alike", shut("ab", X), shut("ba", X)), (("a", "X"), ("b", "X"))),
    (("alike", shut("ab", X), shut("ac", BC)), (("c", "X"),)),
    (("alike", sign("f", X, Y), sign("f", AB, hole("Y", ("b", "c")))), (("a", "X"), ("b", "X"), ("b", "Y"), ("c", "Y"))),
    (("alike", sign("f", X), sign("g", X)), None), (("alike", sign("f", X), sign("f", X, X)), None),
    (("alike", sign("f"), sign("f")), ()), (("alike", sign("f", X, A), sign("f", AB, B)), None),
    (("alike", sign("a"), A), None), (("alike", shut("a", A), sign("a", A)), None), (("alike", X, sign("f", X)), None),
    (("fresh", "a", A), None), (("fresh", "a", B), ()), (("fresh", "a", X), (("a", "X"),)), (("fresh", "a", AB), (("b", "X"),)),
    (("fresh", "a", BC), (("a", "X"),)), (("fresh", "a", shut("a", X)), ()), (("fresh", "a", shut("b", X)), (("a", "X"),)),
    (("fresh", "a", shut("b", A)), None), (("fresh", "a", shut("a", A)), ()), (("fresh", "a", sign("a")), ()),
    (("fresh", "a", sign("f", X, hole("Y", ("a", "c")), B)), (("a", "X"), ("c", "Y"))),
    (("fresh", "a", ("hole", (("a", "b"), ("b", "c"), ("c", "a")), "X")), (("c", "X"),)),
    (("fresh", "a", sign("f", X, A)), None), (("fresh", "d", sign("f", shut("d", X), Y, Y)), (("d", "Y"),)),
]
NO_ASKS = [
    [], ["alike", A, A], ("alike", A), ("alike", A, A, A), ("alike", A, None), ("alike", None, A), ("alike", "a", A),
    ("alike", A, "a"), ("fresh", "a"), ("fresh", "A", A), ("fresh", A, A), ("fresh", "a", "a"), ("fresh", "a", ["name", "a"]),
    ("fresh", None, A), ("fresh", ["a"], A), ("fresh", {}, A), ("fresh", "a", A, A), ("same", A, A), (None, A, A), ([], A, A),
    ("Alike", A, A), ("alike", ("level", 0), ("level", 0)), ("fresh", "a", ("shut", ("level", 0))), A, X, shut("a", A),
    ("alike", (A,), (A,)), (A, "alike", A), ("fresh", "", A), ("fresh", "abcdefghi", A),
]


def holes_asked(ask):
    """The rising list of the ask's holes."""
    return sorted(set().union(*[all_holes(term) for term in ask[1:] if isinstance(term, tuple)]))


def some_ask(chance, levels, holes):
    """An ask, often one of two terms that are nearly alike."""
    one = some_term(chance, levels, THREE, holes)
    if chance.random() < 0.3:
        return ("fresh", chance.choice(THREE), one)
    return ("alike", one, bent(chance, one) if chance.random() < 0.8 else some_term(chance, levels, THREE, holes))


def bent(chance, term):
    """The term with turns put at holes and shut names changed, so that it is perhaps alike."""
    if term[0] == "hole":
        return chance.choice([term, hole(term[2]), hole(term[2], ("a", "b")), hole(term[2], ("b", "c"))])
    if term[0] == "name":
        return name(chance.choice(THREE)) if chance.random() < 0.2 else term
    if term[0] == "sign":
        return ("sign", term[1], tuple(bent(chance, part) for part in term[2]))
    other = chance.choice(THREE)
    turn = hole("X", (term[1], other))[1] if other != term[1] else ()
    inside = [part for part in term[2:]]
    return ("shut", other, bent(chance, chance.choice([fill(("hole", turn, "W"), (("W", inside[0]),)), inside[0]])))


def all_facts(names, holes):
    """All tuples of facts of these names and holes."""
    single = [(a, x) for a in names for x in holes]
    return [facts for many in range(len(single) + 1) for facts in itertools.combinations(single, many)]


class Needs(unittest.TestCase):
    def test_by_hand(self):
        for ask, wanted in NEEDS:
            self.assertEqual(needs(ask), wanted, ask)
            if ask[0] == "alike":
                self.assertEqual(needs(("alike", ask[2], ask[1])) is None, wanted is None, ask)

    def test_against_fillings(self):
        chance = drawn(41)
        seen = {"none": 0, "no facts": 0, "facts": 0}
        for _ in range(1500):
            ask = some_ask(chance, chance.choice([2, 3, 4]), ["X", "Y"] if chance.random() < 0.4 else ["X"])
            told = needs(ask)
            seen["none" if told is None else "facts" if told else "no facts"] += 1
            if told is None:
                closed = tuple([(x, sign("only" + x.lower())) for x in holes_asked(ask)])
                self.assertFalse(met(ask, closed), ask)
                continue
            self.assertEqual(told, tuple(sorted(set(told))))
            for filling in plain_fillings(THREE, holes_asked(ask)):
                self.assertIs(met(ask, filling), kept(filling, told), (ask, filling))
        self.assertGreater(min(seen.values()), 150)

    def test_told_is_the_least(self):
        for ask, told in NEEDS:
            holes = holes_asked(ask)
            if len(holes) > 1:
                continue
            fillings = [filling for filling in plain_fillings(THREE, holes)]
            for facts in all_facts(THREE, holes):
                enough = all(met(ask, filling) for filling in fillings if kept(filling, facts))
                if told is None:
                    closed = tuple([(x, sign("only")) for x in holes])
                    self.assertTrue(kept(closed, facts) and not met(ask, closed), ask)
                else:
                    self.assertEqual(enough, set(told) <= set(facts), (ask, facts))


class NeedsBehind(unittest.TestCase):
    def test_by_hand(self):
        for facts, filling, wanted in [
            ((), (), ()), ((("a", "X"),), (), (("a", "X"),)), ((("a", "X"),), (("X", A),), None), ((("a", "X"),), (("X", B),), ()),
            ((("a", "X"),), (("X", Y),), (("a", "Y"),)), ((("a", "X"),), (("X", hole("Y", ("a", "b"))),), (("b", "Y"),)),
            ((("a", "X"),), (("X", sign("f", X, Y)),), (("a", "X"), ("a", "Y"))), ((("a", "X"),), (("Y", A),), (("a", "X"),)),
            ((("a", "X"), ("b", "X")), (("X", shut("a", Y)),), (("b", "Y"),)), ((), (("X", A),), ()),
            ((("a", "X"), ("a", "Y")), (("X", Z), ("Y", Z)), (("a", "Z"),)), ((("a", "X"), ("b", "Y")), (("X", Y), ("Y", B)), None),
            ((("b", "X"), ("c", "Y")), (("X", sign("f", AB, Z)), ("Z", A)), (("a", "X"), ("b", "Z"), ("c", "Y"))),
        ]:
            self.assertEqual(needs_behind(facts, filling), wanted, (facts, filling))

    def test_against_fillings(self):
        chance = drawn(42)
        seen = {True: 0, False: 0}
        for _ in range(400):
            facts = some_facts(chance, THREE, ["X", "Y"])
            filling = some_filling(chance, 3, THREE, ["X", "Y"], chance.choice([["X"], ["Y", "X"], []]))
            told = needs_behind(facts, filling)
            seen[told is None] += 1
            for plain in itertools.islice(plain_fillings(THREE, ["X", "Y"]), 0, None, 3):
                behind = kept(then_filling(filling, plain), facts)
                self.assertIs(behind, told is not None and kept(plain, told), (facts, filling, plain))
        self.assertGreater(min(seen.values()), 50)


class Holds(unittest.TestCase):
    def checked(self, ask, facts):
        """What holds tells, held against the needs and by filling."""
        told, needed = holds(ask, facts=facts), needs(ask)
        self.assertIs(type(told), tuple)
        if needed is not None and set(needed) <= set(facts):
            self.assertEqual(told, (True, needed))
            return told
        self.assertIs(told[0], False)
        filling = told[1]
        self.assertIs(keeps(filling, facts), True)
        self.assertTrue(set(holes_asked(ask) + [x for _, x in facts]) <= {x for x, _ in filling})
        terms = [filled(term, filling) for term in ask[1:] if isinstance(term, tuple)]
        if ask[0] == "alike":
            self.assertIs(are_alike(*terms), False)
        else:
            self.assertIn(ask[1], free_names(terms[0]))
        self.assertIs(parts_it(ask, filling, facts=facts), True)
        return told

    def test_by_hand(self):
        for ask, _ in NEEDS:
            for facts in [(), (("a", "X"),), (("a", "X"), ("b", "X")), (("a", "Y"), ("b", "X"), ("b", "Y"), ("z", "Q"))]:
                self.checked(ask, facts)
        self.assertEqual(holds(("alike", X, X)), (True, ()))
        self.assertEqual(holds(("fresh", "a", X), facts=(("a", "X"), ("b", "X"))), (True, (("a", "X"),)))
        self.assertIs(holds(("fresh", "a", X))[0], False)
        self.assertEqual(holds(("alike", A, A), facts=(("a", "X"),)), (True, ()))

    def test_facts_left_out_are_none(self):
        for ask, told in NEEDS:
            self.assertEqual(holds(ask) == (True, ()), told == ())
            self.assertIs(holds(ask)[0], holds(ask, facts=())[0])

    def test_signs_called_as_the_row(self):
        for ask in [("alike", sign("f", X, sign("a"), sign("b")), sign("f", sign("c"), X, Y)), ("alike", X, sign("a")),
                    ("alike", sign("a", Y), sign("a", sign("b"))), ("alike", sign("f", X, Y), sign("f", Y, X))]:
            self.assertIs(self.checked(ask, (("a", "X"),))[0], False)

    def test_drawn(self):
        chance = drawn(43)
        seen = {True: 0, False: 0}
        for _ in range(1500):
            ask = some_ask(chance, chance.choice([2, 3, 4, 6]), ["X", "Y"])
            seen[self.checked(ask, some_facts(chance, THREE, ["X", "Y", "Z"]))[0]] += 1
        self.assertGreater(min(seen.values()), 100)


class PartsIt(unittest.TestCase):
    def test_by_hand(self):
        ask, facts = ("alike", shut("a", X), shut("b", X)), (("a", "X"),)
        for filling, wanted in [
            ((("X", B),), True), ((("X", A),), False), ((("X", C),), False), ((("X", B), ("Y", A)), True),
            ((("W", A), ("X", B), ("Y", A)), True), ((("Y", B),), False), ((), False), ((("X", Y),), False),
            ((("X", B), ("Y", X)), False), ((("X", sign("f", A, B)),), False), ((("X", sign("f", shut("a", A), B)),), True),
        ]:
            self.assertIs(parts_it(ask, filling, facts=facts), wanted, filling)
        self.assertIs(parts_it(ask, (("X", A),)), True)

    def test_all_holes_must_be_filled(self):
        ask, facts = ("alike", sign("f", X, Y), sign("f", Y, X)), (("a", "Z"),)
        self.assertIs(parts_it(ask, (("X", A), ("Y", B), ("Z", C)), facts=facts), True)
        self.assertIs(parts_it(ask, (("X", A), ("Y", B), ("Z", A)), facts=facts), False)
        self.assertIs(parts_it(ask, (("X", A), ("Y", B)), facts=facts), False)
        self.assertIs(parts_it(ask, (("X", A), ("Z", C)), facts=facts), False)
        self.assertIs(parts_it(ask, (("X", A), ("Y", A), ("Z", C)), facts=facts), False)
        self.assertIs(parts_it(("fresh", "a", sign("f", A, X)), ()), False)
        self.assertIs(parts_it(("fresh", "a", A), ()), True)
        self.assertIs(parts_it(("fresh", "a", A), (), facts=(("a", "X"),)), False)

    def test_anything_as_filling(self):
        for thing in NO_FILLINGS + odd_but(()) + [(("X", Y),), (("X", hole("X", ("a", "b"))),)]:
            for ask in [("fresh", "a", A), ("alike", X, A), ("alike", A, A)]:
                self.assertIs(parts_it(ask, thing), False, thing)
                self.assertIs(parts_it(ask, thing, facts=(("a", "X"),)), False, thing)

    def test_drawn(self):
        chance = drawn(44)
        seen = {True: 0, False: 0}
        for _ in range(1500):
            ask, facts = some_ask(chance, 3, ["X"]), some_facts(chance, THREE[:2], ["X", "Y"])[:2]
            filling = some_filling(chance, 2, THREE, ["W", "X", "Y"], [] if chance.random() < 0.9 else ["X"])
            filled_holes = {x for x, term in filling if not any(all_holes(term) for _, term in filling)}
            wanted = set(holes_asked(ask) + [x for _, x in facts]) <= filled_holes and kept(filling, facts) \
                and not met(ask, filling) and not any(all_holes(term) for _, term in filling)
            seen[wanted] += 1
            self.assertIs(parts_it(ask, filling, facts=facts), wanted, (ask, filling, facts))
        self.assertGreater(min(seen.values()), 100)


class Refusals(unittest.TestCase):
    def test_no_ask(self):
        for thing in NO_ASKS + odd_but():
            for call in (needs, holds, lambda ask: holds(ask, facts=None), lambda ask: parts_it(ask, ()),
                         lambda ask: parts_it(ask, None, facts=[])):
                with self.assertRaises(NoAsk):
                    call(thing)

    def test_no_facts(self):
        for thing in NO_FACTS + odd_but(()):
            for call in (lambda: holds(("alike", A, A), facts=thing), lambda: holds(("alike", A, B), facts=thing),
                         lambda: parts_it(("alike", A, B), (), facts=thing),
                         lambda: parts_it(("alike", A, B), None, facts=thing),
                         lambda: needs_behind(thing, ()), lambda: needs_behind(thing, None)):
                with self.assertRaises(NoFacts):
                    call()

    def test_needs_behind_no_filling(self):
        for thing in NO_FILLINGS + odd_but(()):
            for facts in [(), (("a", "X"),)]:
                with self.assertRaises(NoFilling):
                    needs_behind(facts, thing)


if __name__ == "__main__":
    unittest.main()
