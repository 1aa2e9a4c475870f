"""Free and shut names, level forms, alike terms, told forms, and names replaced."""

import unittest

from shutnames.alike import are_alike, free_names, level_form, replaced, told_form
from shutnames.errors import HasHoles, NoName, NoTerm
from shutnames.terms import is_term, names_in

from things import (A, B, C, D, FIVE, ROW, THREE, X, Y, all_names, drawn, free, hole, inner, levels, many_odd, name, shut,
                    sign, some_term)

HOLED = [X, shut("a", X), sign("f", A, hole("Y", ("a", "b"))), shut("ab", sign("f", A, shut("c", Y)))]
NONE = [None, [], ("name", "A"), ("level", 0), ("shut", ("level", 0)), ["name", "a"], ("sign", "f", [A])]


def well_named(term):
    """Whether each shut has the first name of the row that isn't free in it."""
    if term[0] == "shut":
        barred = free(term)
        if term[1] != [a for a in ROW if a not in barred][0]:
            return False
    return all(well_named(part) for part in inner(term))


def new_name(taken):
    """A name from the end of the row that isn't taken."""
    return [a for a in ROW[::-1] if a not in taken][0]


def replaced_by_hand(term, put):
    """The term with a dict's terms in the place of free names; each shut is given a name that is nowhere else first."""
    if term[0] == "name":
        return put.get(term[1], term)
    if term[0] == "sign":
        return ("sign", term[1], tuple(replaced_by_hand(part, put) for part in term[2]))
    fresh = new_name(all_names(term).union(put, *[all_names(one) for one in put.values()]))
    renamed = replaced_by_hand(term[2], {term[1]: name(fresh)})
    return ("shut", fresh, replaced_by_hand(renamed, put))


class Free(unittest.TestCase):
    def test_by_hand(self):
        self.assertEqual(free_names(A), ["a"])
        self.assertEqual(free_names(shut("a", A)), [])
        self.assertEqual(free_names(sign("f", B, shut("a", A), A, B)), ["a", "b"])
        self.assertEqual(free_names(sign("a", shut("b", sign("c", C, B)))), ["c"])
        self.assertEqual(free_names(shut("aa", sign("f", A, B))), ["b"])
        self.assertEqual(free_names(sign("f")), [])

    def test_drawn(self):
        chance = drawn(21)
        for _ in range(300):
            term = some_term(chance, 7, FIVE, [])
            self.assertEqual(free_names(term), sorted(free(term)))


class LevelForm(unittest.TestCase):
    def test_by_hand(self):
        self.assertEqual(level_form(A), A)
        self.assertEqual(level_form(sign("f")), sign("f"))
        self.assertEqual(level_form(shut("a", A)), ("shut", ("level", 0)))
        self.assertEqual(level_form(shut("a", B)), ("shut", B))
        self.assertEqual(level_form(shut("ab", sign("f", A, B, C))),
                         ("shut", ("shut", ("sign", "f", (("level", 1), ("level", 0), C)))))
        self.assertEqual(level_form(shut("aa", A)), ("shut", ("shut", ("level", 0))))
        self.assertEqual(level_form(sign("f", A, shut("a", A), A)), ("sign", "f", (A, ("shut", ("level", 0)), A)))
        self.assertEqual(level_form(shut("aba", sign("a", A, B))),
                         ("shut", ("shut", ("shut", ("sign", "a", (("level", 0), ("level", 1)))))))

    def test_drawn(self):
        chance = drawn(22)
        for _ in range(300):
            term = some_term(chance, 7, THREE, [])
            self.assertEqual(level_form(term), levels(term))


class Alike(unittest.TestCase):
    def test_by_hand(self):
        for one, other in [
            (A, A), (shut("a", A), shut("b", B)), (shut("ab", sign("f", A, B)), shut("ba", sign("f", B, A))),
            (shut("a", C), shut("b", C)), (shut("aa", A), shut("ab", B)), (shut("aa", A), shut("ba", A)),
            (sign("f", A, shut("a", A)), sign("f", A, shut("c", C))), (sign("f"), sign("f")),
        ]:
            self.assertIs(are_alike(one, other), True)
            self.assertIs(are_alike(other, one), True)

    def test_unlike_by_hand(self):
        for one, other in [
            (A, B), (shut("a", A), shut("b", A)), (shut("a", B), shut("b", B)), (shut("ab", A), shut("ab", B)),
            (shut("aa", A), shut("ab", A)), (sign("f", A), sign("g", A)), (sign("f", A), sign("f", A, A)),
            (sign("f"), shut("f", A)), (sign("a"), A), (sign("f", sign("g", A), B), sign("f", sign("g", A, B))),
            (sign("f", sign("g"), A), sign("f", sign("g", A))), (shut("a", A), shut("aa", A)), (shut("a", A), A),
            (sign("f", shut("a", A), A), sign("f", shut("a", A), B)), (shut("a", B), shut("b", A)),
        ]:
            self.assertIs(are_alike(one, other), False)
            self.assertIs(are_alike(other, one), False)

    def test_drawn(self):
        chance = drawn(23)
        seen = {True: 0, False: 0}
        for _ in range(3000):
            one, other = some_term(chance, 3, THREE[:2], []), some_term(chance, 3, THREE[:2], [])
            alike = levels(one) == levels(other)
            seen[alike] += 1
            self.assertIs(are_alike(one, other), alike)
        self.assertGreater(min(seen.values()), 100)

    def test_told_terms_may_be_deep(self):
        one, other = A, B
        for _ in range(40):
            one = replaced(shut("b" * 30, sign("f", name("z"))), [("z", one)])
            other = replaced(shut("c" * 30, sign("f", name("z"))), [("z", other)])
        self.assertIs(are_alike(one, other), False)
        self.assertIs(are_alike(one, replaced(other, [("b", A)])), True)


class ToldForm(unittest.TestCase):
    def test_by_hand(self):
        self.assertEqual(told_form(A), A)
        self.assertEqual(told_form(shut("z", name("z"))), shut("a", A))
        self.assertEqual(told_form(shut("z", A)), shut("b", A))
        self.assertEqual(told_form(shut("xy", sign("f", name("x"), name("y")))), shut("ab", sign("f", A, B)))
        self.assertEqual(told_form(shut("xy", name("y"))), shut("aa", A))
        self.assertEqual(told_form(shut("xy", name("x"))), shut("ab", A))
        self.assertEqual(told_form(shut("xyz", sign("f", name("x"), name("z")))), shut("abb", sign("f", A, B)))
        self.assertEqual(told_form(sign("f", A, shut("a", A))), sign("f", A, shut("a", A)))
        self.assertEqual(told_form(shut("c", sign("f", A, C, shut("a", sign("f", A, C, D))))),
                         shut("b", sign("f", A, B, shut("a", sign("f", A, B, D)))))

    def test_row(self):
        for many in (25, 26, 27, 51, 52, 53, 60):
            wide = sign("f", *[name(a) for a in ROW[:many]])
            self.assertEqual(told_form(shut(["zz"], wide)), shut([ROW[many]], wide))
            inward = sign("f", *[name(a) for a in ROW[:many]], name("zz"))
            outward = sign("f", *[name(a) for a in ROW[:many + 1]])
            self.assertEqual(told_form(shut(["zz"], inward)), shut([ROW[many]], outward))
        self.assertEqual([ROW[at] for at in (0, 25, 26, 51, 52)], ["a", "z", "a1", "z1", "a2"])

    def test_shut_within_one_another(self):
        names = ["s" + str(at) for at in range(30)]
        told = told_form(shut(names, sign("f", *[name(a) for a in names])))
        self.assertEqual(told, shut(ROW[:30], sign("f", *[name(a) for a in ROW[:30]])))

    def test_drawn(self):
        chance = drawn(24)
        for _ in range(400):
            term = some_term(chance, 7, chance.choice([THREE, FIVE, ["x", "b", "z9"]]), [])
            told = told_form(term)
            self.assertEqual(levels(told), levels(term))
            self.assertTrue(well_named(told), told)
            self.assertEqual(told_form(told), told)


class Replaced(unittest.TestCase):
    def test_by_hand(self):
        self.assertEqual(replaced(A, [("a", B)]), B)
        self.assertEqual(replaced(A, []), A)
        self.assertEqual(replaced(shut("z", name("z")), []), shut("a", A))
        self.assertEqual(replaced(A, [("b", C)]), A)
        self.assertEqual(replaced(shut("a", A), [("a", B)]), shut("a", A))
        self.assertEqual(replaced(sign("f", A, shut("a", A)), [("a", sign("g"))]), sign("f", sign("g"), shut("a", A)))

    def test_all_at_once(self):
        self.assertEqual(replaced(sign("f", A, B), [("a", B), ("b", A)]), sign("f", B, A))
        self.assertEqual(replaced(sign("f", A, B), [("a", B), ("b", C)]), sign("f", B, C))
        self.assertEqual(replaced(sign("f", A, B), [("b", sign("g", A)), ("a", B)]), sign("f", B, sign("g", A)))

    def test_none_gets_shut(self):
        self.assertEqual(replaced(shut("b", sign("f", A, B)), [("a", B)]), shut("a", sign("f", B, A)))
        self.assertEqual(replaced(shut("bc", sign("f", A, B, C)), [("a", sign("g", B, C))]),
                         shut("ad", sign("f", sign("g", B, C), A, D)))
        self.assertEqual(replaced(shut("b", A), [("a", shut("c", sign("g", C, B)))]),
                         shut("a", shut("a", sign("g", A, B))))

    def test_drawn(self):
        chance = drawn(25)
        for _ in range(300):
            term = some_term(chance, 5, FIVE, [])
            put = {a: some_term(chance, 3, FIVE, []) for a in chance.sample(FIVE, chance.randrange(4))}
            pairs = list(put.items())
            kept = list(pairs)
            told = replaced(term, pairs)
            self.assertEqual(levels(told), levels(replaced_by_hand(term, put)))
            self.assertTrue(well_named(told))
            self.assertEqual(pairs, kept)


class Refusals(unittest.TestCase):
    def test_no_term(self):
        for thing in many_odd() + NONE:
            for call in (free_names, level_form, told_form, lambda one: replaced(one, [])):
                with self.assertRaises(NoTerm):
                    call(thing)
            for other in [A, X, thing]:
                for call in (lambda: are_alike(thing, other), lambda: are_alike(other, thing),
                             lambda: replaced(thing, [("a", other)]), lambda: replaced(other, [("a", thing)]),
                             lambda: replaced(A, [("a", other), ("a", thing)]),
                             lambda: replaced(thing, [("A", other)])):
                    with self.assertRaises(NoTerm):
                        call()

    def test_has_holes(self):
        for term in HOLED:
            for call in (free_names, level_form, told_form, lambda one: replaced(one, [])):
                with self.assertRaises(HasHoles):
                    call(term)
            for call in (lambda: are_alike(term, A), lambda: are_alike(A, term), lambda: are_alike(term, term),
                         lambda: replaced(A, [("b", term)]), lambda: replaced(term, [("A", B)]),
                         lambda: replaced(A, [("a", term), ("a", A)]), lambda: replaced(A, [("a", A), (None, term)])):
                with self.assertRaises(HasHoles):
                    call()

    def test_no_name(self):
        for thing in [one for one in many_odd() if one not in ("a", "name")] + ["A", "1a", "abcdefghi"]:
            with self.assertRaises(NoName):
                replaced(A, [(thing, B)])
            with self.assertRaises(NoName):
                replaced(A, [("b", B), (thing, B)])
        for pairs in [[("a", B), ("a", B)], [("a", B), ("b", B), ("a", C)], [("c", A), ("c", A)]]:
            with self.assertRaises(NoName):
                replaced(A, pairs)


class ToldThings(unittest.TestCase):
    def test_lists_changed(self):
        term = sign("f", A, shut("b", sign("f", B, C)))
        first = free_names(term)
        self.assertEqual(first, ["a", "c"])
        first.append("more")
        first[0] = None
        self.assertEqual(free_names(term), ["a", "c"])

    def test_kinds(self):
        term = shut("z", sign("f", name("z"), A))
        self.assertIs(is_term(told_form(term)), True)
        self.assertIs(is_term(level_form(term)), False)
        self.assertEqual(names_in(told_form(term)), ["a", "b"])
        self.assertIs(type(free_names(term)), list)
        self.assertIs(type(level_form(term)), tuple)


if __name__ == "__main__":
    unittest.main()
