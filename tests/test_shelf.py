"""The shelf of plain terms."""

import unittest

from shutnames.alike import told_form
from shutnames.errors import HasHoles, Missing, NoPaper, NoTerm, NoTurn
from shutnames.shelf import Shelf, unpacked
from shutnames.texts import term_text

from test_terms import NO_TERMS
from test_uses import shuts_renamed
from things import (A, B, C, D, FIVE, ODD_THINGS, THREE, X, all_parts, drawn, free, hole, lead, levels, many_odd, name, shut, sign,
                    some_term, some_turn)

SWAP = (("a", "b"), ("b", "a"))


def shelf_of(*terms):
    shelf = Shelf()
    for term in terms:
        shelf.put(term)
    return shelf


def state(shelf):
    """All that is told of the shelf."""
    numbers = shelf.numbers()
    return [(number, shelf.term_of(number), shelf.held(number), shelf.within(number)) for number in numbers], shelf.packed(), len(shelf)


class ByHand:
    """A shelf as plain rows (number, level form, how often held), looked through by recursion."""

    def __init__(self):
        self.rows = []
        self.following = 0

    def put(self, term):
        for row in self.rows:
            if row[1] == levels(term):
                row[3] += 1
                return row[0]
        self.rows.append([self.following, levels(term), term, 1])
        self.following += 1
        return self.following - 1

    def let_go(self, number):
        for row in self.rows:
            if row[0] == number:
                row[3] -= 1
        self.rows = [row for row in self.rows if row[3]]

    def turned_all(self, turn):
        self.rows = [[number, levels(lead(turn, term)), lead(turn, term), often] for number, _, term, often in self.rows]

    def within(self, number):
        (sought,) = [row[1] for row in self.rows if row[0] == number]
        return [row[0] for row in self.rows if any(part == sought and not (free_of(term) & shuts) for part, term, shuts in parts(row[2]))]

    def called(self, f):
        return [row[0] for row in self.rows if row[2][:2] == ("sign", f)]


def free_of(term):
    return free(term)


def parts(term):
    """The level form, the part, and the names shut above it, at each place but ()."""
    found = []
    for place, part in all_parts(term):
        if place:
            above, here = set(), term
            for at in place:
                if here[0] == "shut":
                    above.add(here[1])
                here = here[2] if here[0] == "shut" else here[2][at]
            found.append((levels(part), part, above))
    return found


class Shelves(unittest.TestCase):
    def test_put_and_find(self):
        shelf = Shelf()
        self.assertEqual((len(shelf), shelf.numbers(), shelf.find(A), shelf.packed()), (0, [], None, (0, ())))
        self.assertEqual([shelf.put(term) for term in (shut("a", A), B, shut("b", B), A, B, shut("c", C), shut("a", B))],
                         [0, 1, 0, 2, 1, 0, 3])
        self.assertEqual([shelf.find(term) for term in (shut("z", name("z")), B, A, shut("c", B), C, shut("b", A), sign("a"))],
                         [0, 1, 2, 3, None, None, None])
        self.assertEqual((shelf.numbers(), len(shelf), [shelf.held(at) for at in range(4)]), ([0, 1, 2, 3], 4, [3, 2, 1, 1]))
        # Finding holds nothing.
        self.assertEqual([shelf.find(B) for _ in range(3)] + [shelf.held(1)], [1, 1, 1, 2])

    def test_told_forms(self):
        terms = [shut("q", name("q")), shut("b", sign("f", A, B)), shut("c", shut("d", sign("f", C, D, A))), sign("f", shut("b", B), B), A]
        shelf = shelf_of(*terms)
        for number, term in enumerate(terms):
            self.assertEqual(shelf.term_of(number), told_form(term))
            self.assertEqual(levels(shelf.term_of(number)), levels(term))
        self.assertEqual(shelf.term_of(0), shut("a", A))

    def test_let_go(self):
        shelf = shelf_of(A, B, A, A)
        self.assertIsNone(shelf.let_go(0))
        self.assertEqual((shelf.held(0), shelf.numbers()), (2, [0, 1]))
        shelf.let_go(0)
        shelf.let_go(0)
        self.assertEqual((shelf.numbers(), len(shelf), shelf.find(A)), ([1], 1, None))
        with self.assertRaises(Missing):
            shelf.let_go(0)
        # What it stood for comes again, under a new number.
        self.assertEqual((shelf.put(A), shelf.put(A), shelf.held(2), shelf.numbers()), (2, 2, 2, [1, 2]))
        shelf.let_go(1)
        self.assertEqual((shelf.put(B), shelf.numbers()), (3, [2, 3]))
        for number in (2, 2, 3):
            shelf.let_go(number)
        self.assertEqual((shelf.packed(), shelf.put(C)), ((4, ()), 4))

    def test_called(self):
        shelf = shelf_of(sign("f", A), A, sign("f"), sign("g", sign("f")), shut("a", sign("f")), sign("f", A, B, C), sign("a"), name("f"))
        self.assertEqual([shelf.called(f) for f in ("f", "g", "a", "h", "b")], [[0, 2, 5], [3], [6], [], []])
        shelf.let_go(2)
        self.assertEqual(shelf.called("f"), [0, 5])
        self.assertEqual(Shelf().called("f"), [])

    def test_within(self):
        whole = sign("f", A, shut("a", sign("g", A, B)), shut("c", shut("d", sign("h", C))))
        shelf = shelf_of(whole, A, B, sign("g", A, B), shut("c", sign("g", C, B)), C, shut("b", sign("h", B)), sign("h", C), shut("q", A),
                         sign("g", C, B))
        self.assertEqual([shelf.within(at) for at in range(10)],
                         [[], [0, 3, 8], [0, 3, 4, 9], [], [0], [7, 9], [], [], [], []])
        inner = shelf_of(shut("d", sign("h", C)), shut("c", shut("d", sign("h", C))), shut("a", shut("b", sign("h", C))), sign("h", C),
                         shut("b", sign("h", B)), shut("a", shut("b", sign("h", B))))
        self.assertEqual([inner.within(at) for at in range(6)], [[2], [], [], [0, 2], [5], []])

    def test_within_names_shut_elsewhere(self):
        # The name is free beside the shut, and also below a shut of another one.
        shelf = shelf_of(sign("f", shut("a", A), A), sign("f", shut("a", A), B), A, sign("f", shut("b", A)), shut("a", sign("g", A, shut("b", A))))
        self.assertEqual(shelf.within(2), [0, 3])
        self.assertEqual(shelf_of(sign("k", shut("a", shut("b", A))), shut("b", A), A, shut("b", B)).within(1), [])
        self.assertEqual(shelf_of(sign("k", shut("a", shut("b", B))), shut("b", A), A, shut("c", C)).within(3), [0])
        self.assertEqual(shelf_of(A).within(0), [])

    def test_turned_all(self):
        shelf = shelf_of(A, B, shut("a", sign("f", A, B)), sign("f", A, C), A)
        self.assertIsNone(shelf.turned_all(SWAP))
        self.assertEqual([shelf.find(term) for term in (B, A, shut("b", sign("f", B, A)), sign("f", B, C), shut("a", sign("f", A, B)))],
                         [0, 1, 2, 3, None])
        self.assertEqual([shelf.held(at) for at in range(4)], [2, 1, 1, 1])
        self.assertEqual(shelf.term_of(2), told_form(shut("c", sign("f", C, A))))
        # Terms come to stand under other names, and new ones beside them.
        self.assertEqual([shelf.put(term) for term in (A, shut("q", sign("f", name("q"), A)), sign("f", A, C))], [1, 2, 4])
        shelf.turned_all(())
        shelf.turned_all(SWAP)
        self.assertEqual([shelf.find(term) for term in (A, B, sign("f", A, C), sign("f", B, C))], [0, 1, 3, 4])
        shelf.let_go(0)
        shelf.let_go(0)
        self.assertIsNone(shelf.find(A))
        shelf.turned_all((("a", "c"), ("b", "a"), ("c", "b")))
        self.assertEqual([shelf.find(A), shelf.find(B), shelf.put(B), shelf.numbers()], [1, None, 5, [1, 2, 3, 4, 5]])

    def test_equal(self):
        one, other = shelf_of(A, shut("a", A)), shelf_of(A, shut("b", B))
        self.assertTrue(one == other and not one != other)
        for change in (lambda shelf: shelf.put(A), lambda shelf: shelf.put(B), lambda shelf: shelf.let_go(0),
                       lambda shelf: shelf.turned_all(SWAP), lambda shelf: shelf.let_go(shelf.put(C))):
            other = shelf_of(A, shut("b", B))
            change(other)
            self.assertTrue(one != other and not one == other)
            self.assertTrue(other != one and not other == one)
        # The same terms under other numbers; the same numbers, but not the same next one.
        self.assertTrue(shelf_of(A, B) != shelf_of(B, A))
        self.assertTrue(shelf_of(A, B, B) != shelf_of(A, A, B))
        gone = shelf_of(A, B)
        gone.let_go(1)
        self.assertTrue(gone != shelf_of(A) and shelf_of(A) != gone)
        gone.put(B)
        self.assertTrue(gone != shelf_of(A, B))
        self.assertTrue(Shelf() == Shelf() and not Shelf() != Shelf())
        for thing in ODD_THINGS:
            self.assertTrue(Shelf() != thing and not Shelf() == thing)

    def test_drawn(self):
        chance = drawn(281)
        for _ in range(12):
            shelf, by_hand = Shelf(), ByHand()
            pool = [some_term(chance, 3, THREE, []) for _ in range(14)]
            pool += [part for term in pool for _, part in all_parts(term)][:20]
            for _ in range(60):
                kind = chance.random()
                term = chance.choice(pool)
                if kind < 0.6:
                    self.assertEqual(shelf.put(shuts_renamed(chance, term)), by_hand.put(term))
                elif kind < 0.9 and by_hand.rows:
                    number = chance.choice(by_hand.rows)[0]
                    shelf.let_go(number)
                    by_hand.let_go(number)
                elif kind < 0.95:
                    turn = some_turn(chance, THREE)
                    shelf.turned_all(turn)
                    by_hand.turned_all(turn)
                self.as_by_hand(shelf, by_hand, term)

    def as_by_hand(self, shelf, by_hand, term):
        numbers = [row[0] for row in by_hand.rows]
        self.assertEqual((shelf.numbers(), len(shelf)), (numbers, len(numbers)))
        self.assertEqual([(levels(shelf.term_of(row[0])), shelf.held(row[0])) for row in by_hand.rows], [(row[1], row[3]) for row in by_hand.rows])
        self.assertEqual(shelf.find(term), next((row[0] for row in by_hand.rows if row[1] == levels(term)), None))
        self.assertEqual([shelf.called(f) for f in ("f", "g", "a", "x")], [by_hand.called(f) for f in ("f", "g", "a", "x")])
        self.assertEqual([shelf.within(number) for number in numbers], [by_hand.within(number) for number in numbers])
        self.assertEqual(shelf.packed()[0], by_hand.following)
        again = unpacked(shelf.packed())
        self.assertTrue(again == shelf and state(again) == state(shelf))

    def test_lists_changed(self):
        shelf = shelf_of(sign("f", A), A, B)
        before = state(shelf)
        for told in (shelf.numbers(), shelf.called("f"), shelf.within(1)):
            told.append(7)
            told[0] = None
        self.assertEqual(state(shelf), before)

    def test_two_shelves(self):
        one, other = shelf_of(A, B), shelf_of(A, B)
        before = state(other)
        one.put(C)
        one.let_go(0)
        one.turned_all(SWAP)
        self.assertEqual(state(other), before)
        twin = one.copied()
        self.assertTrue(twin == one)
        before = state(one)
        twin.put(D)
        twin.let_go(1)
        twin.turned_all(SWAP)
        self.assertEqual(state(one), before)

    def test_deep_terms(self):
        term = A
        for at in range(300):
            term = shut(FIVE[at % 5], sign("f", term))
        shelf = shelf_of(term, sign("f", term), A)
        self.assertEqual((shelf.within(0), shelf.within(2), shelf.put(shuts_renamed(drawn(1), A))), ([1], [], 2))
        self.assertTrue(unpacked(shelf.packed()) == shelf)


class Refusals(unittest.TestCase):
    def refused(self, shelf, refusal, call):
        before = state(shelf)
        with self.assertRaises(refusal) as caught:
            call()
        self.assertEqual(state(shelf), before)
        return caught.exception

    def test_no_term(self):
        shelf = shelf_of(A, shut("a", A))
        for thing in NO_TERMS + many_odd():
            for call in (lambda: shelf.put(thing), lambda: shelf.find(thing)):
                self.refused(shelf, NoTerm, call)
        for term in (X, hole("X", ("a", "b")), sign("f", A, X), shut("a", X)):
            for call in (lambda: shelf.put(term), lambda: shelf.find(term)):
                self.refused(shelf, HasHoles, call)

    def test_missing(self):
        shelf = shelf_of(A, B, C)
        shelf.let_go(1)
        for number in (1, 3, -1, 10 ** 19):
            for call in (lambda: shelf.term_of(number), lambda: shelf.held(number), lambda: shelf.let_go(number), lambda: shelf.within(number)):
                refusal = self.refused(shelf, Missing, call)
                self.assertEqual(refusal.number, number)
                self.assertIsInstance(refusal, KeyError)

    def test_no_turn(self):
        shelf = shelf_of(A, B)
        for thing in [[], (("a", "b"),), (("a", "a"),), (("b", "a"), ("a", "b")), None, "a"] + [thing for thing in many_odd() if thing != ()]:
            self.refused(shelf, NoTurn, lambda: shelf.turned_all(thing))


class Packed(unittest.TestCase):
    def test_by_hand(self):
        shelf = shelf_of(B, shut("q", sign("f", name("q"), A)), B, sign("g"))
        self.assertEqual(shelf.packed(), (3, ((0, 2, "b"), (1, 1, "[b]f(b, a)"), (2, 1, "g()"))))
        shelf.let_go(2)
        shelf.let_go(1)
        self.assertEqual(shelf.packed(), (3, ((0, 2, "b"),)))
        self.assertEqual(unpacked((0, ())).packed(), (0, ()))
        self.assertEqual(unpacked((9, ())).put(A), 9)

    def test_goes_on_alike(self):
        shelf = shelf_of(B, shut("q", sign("f", name("q"), A)), B, sign("g"))
        shelf.let_go(2)
        again = unpacked(shelf.packed())
        self.assertIs(type(again), Shelf)
        for one in (shelf, again):
            self.assertEqual([one.put(term) for term in (A, B, shut("c", sign("f", C, A)), sign("g"))], [3, 0, 1, 4])
            one.let_go(0)
            one.turned_all(SWAP)
        self.assertTrue(shelf == again)
        self.assertEqual(state(shelf), state(again))
        before = state(again)
        shelf.put(D)
        self.assertEqual(state(again), before)

    def test_bent(self):
        right = (7, ((0, 2, "b"), (3, 1, "[b]f(b, a)"), (5, 10 ** 19, "g()")))
        rows = right[1]
        self.assertEqual(unpacked(right).packed(), right)
        papers = [(given, rows) for given in (5, 4, 0, -1, True, None, "7", "", (7,), [7])] + [
            list(right), (7, list(rows)), right + ((),), (7,), (rows,), (7, rows, None), (7, {}), (7, None), (7, 7), (7, ""), (rows, 7),
            (7, rows[::-1]), (7, (rows[1], rows[0], rows[2])), (7, rows + rows[2:]), (7, rows[:1] + rows), (7, rows[0]), (7, rows + ((),)),
            (False, ()), (True, ((0, 1, "b"),)), (-1, ()), ("0", ()), (0, []), (0, ((0, 1, "b"),)), (None, ()), ((), ()), 7, (7, ((),)), (0, None)]
        for at, row in enumerate(rows):
            bent = [list(row), row[:2], row + ((),), row[::-1], None, (), 0, "b"]
            bent += [(number,) + row[1:] for number in (-1, True, False, None, "0", 7, 10 ** 19, (0,))]
            bent += [(row[0], often, row[2]) for often in (0, -1, True, False, None, "1", (1,), [])]
            bent += [row[:2] + (text,) for text in (
                "", " b", "b ", "B", "X", "f(X)", "[a]X", "(a b)X", "[q]f(q, a)", "[a]f(a, a)x", "f(a,b)", "f(a, b", "a b", "b # X", "b = b", "[c]c",
                "f([b]b)", "[b][a]b", "[a][b]b", "abcdefghi", "-", "%", "A", None, True, 1, ("name", "b"), A, [], {}, ["b"], "b(")]
            papers += [(7, rows[:at] + (one,) + rows[at + 1:]) for one in bent]
        papers += [(7, (rows[0], (1, 1, "b"))), (7, ((0, 1, "g()"), rows[1], rows[2])), (7, ((0, 1, "[a]a"), (1, 1, "[a]a")))]
        for paper in papers + many_odd():
            with self.assertRaises(NoPaper, msg=paper):
                unpacked(paper)

    def test_told_forms_alone(self):
        chance = drawn(282)
        for _ in range(150):
            term = some_term(chance, 4, THREE, [])
            text = term_text(term)
            if told_form(term) == term:
                self.assertEqual(unpacked((1, ((0, 1, text),))).term_of(0), term)
            else:
                with self.assertRaises(NoPaper):
                    unpacked((1, ((0, 1, text),)))

    def test_what_is_handed_in_stays(self):
        papers = (2, ((0, 1, "a"), (1, 1, "b")))
        shelf = unpacked(papers)
        shelf.let_go(0)
        self.assertEqual(papers, (2, ((0, 1, "a"), (1, 1, "b"))))


if __name__ == "__main__":
    unittest.main()
