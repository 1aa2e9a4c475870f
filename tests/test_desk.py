"""The desk and its lines."""

import unittest

from shutnames.asks import Asks
from shutnames.desk import Desk
from shutnames.errors import Clash, HasHoles, Missing, NoLine, NotGood, NoText, NoUndo, NoWeighing, ShutError, TooLong
from shutnames.texts import ask_text, rule_text, term_text

from books import GOOD, W, some_book, some_subject
from test_asks import joint_ask
from things import FIVE, drawn, some_term

PROBES = ["steps p()", "steps k(g(f(a, a)), [a]h(f(b, a)))", "steps $x", "steps $y", "end g([a]b)", "verdict", "same g([a]b) | g(b)", "answer",
          "shown 0", "shown 1", "shown 2", "shown 3", "trial ask q = q", "trial shelf q", "trial rule q1() -> q2()", "trial drop 0; drop 0",
          "trial forget 0", "trial forget 1", "trial gone 0; gone 0", "trial weigh g 1 7 7", "trial let x p(); let y p()"]


def answer(desk, line):
    """What a line is answered, or what it is refused with and that one's field."""
    try:
        return desk.tell(line)
    except (ShutError, Missing) as refusal:
        fields = [word for word in ("at", "number", "lot", "most", "verdict") if hasattr(refusal, word)]
        return (type(refusal), *[getattr(refusal, field) for field in fields])


def desk_of(*lines):
    desk = Desk()
    for line in lines:
        desk.tell(line)
    return desk


def shown(desk):
    """What a desk answers to many lines that change it, each undone again."""
    told = []
    for line in PROBES:
        one = answer(desk, line)
        told.append(one)
        if line.startswith("trial") and isinstance(one, str):
            desk.tell("undo")
    return told


class DeskTest(unittest.TestCase):
    def dialog(self, *rows):
        """Each line with its answer, or with what it is refused with; the desk behind all of them."""
        desk = Desk()
        self.goes_on(desk, *rows)
        return desk

    def goes_on(self, desk, *rows):
        for line, wanted in rows:
            told = answer(desk, line)
            if isinstance(wanted, type):
                self.assertEqual(told[:1], (wanted,), (line, told))
            else:
                self.assertEqual(told, wanted, line)
            if isinstance(told, str):
                self.assertIs(type(told), str)


class Lines(DeskTest):
    def test_rules(self):
        self.dialog(
            ("rule h(X) -> X", "0"), ("rule [a]X -> X if a # X", "1"), ("rule g([a]X) -> [a]g(X)", "2"), ("steps g([a]h(b))", "3"),
            ("drop 0", "ok"), ("steps g([a]h(b))", "2"), ("end g([a]b)", "g(b) | 2"), ("drop 2", (Missing, 2)), ("drop 1", "ok"),
            ("end g([a]b)", "g(b) | 1"), ("steps h(a)", "0"), ("drop 0", "ok"), ("drop 0", (Missing, 0)), ("steps [a]b", "0"),
            ("rule h(X) -> X", "0"), ("steps h(a)", "1"), ("rule h(X) -> X", "1"), ("steps h(a)", "2"))

    def test_rules_move_up(self):
        desk = desk_of("rule s0() -> p()", "rule s1() -> p()", "rule s2() -> p()", "rule s3() -> p()")
        self.goes_on(desk, ("drop 1", "ok"), ("steps s1()", "0"), ("steps f(s0(), s2(), s3())", "3"), ("drop 1", "ok"), ("steps s2()", "0"),
                     ("drop 2", (Missing, 2)), ("rule s4() -> p()", "2"), ("weigh s0 0 2", "ok"), ("weigh s3 0 1", "ok"), ("weigh s4 0 1", "ok"),
                     ("weigh p 0 1", "ok"), ("verdict", "rises 1"), ("drop 0", "ok"), ("verdict", "rises 0"))

    def test_weigh(self):
        self.dialog(
            ("rule g(X) -> h(X)", "0"), ("verdict", NoWeighing), ("weigh g 1 2 1", "ok"), ("verdict", NoWeighing), ("weigh h 0 1", "ok"),
            ("verdict", NoWeighing), ("weigh h 1 1 1", "ok"), ("verdict", "good"), ("weigh h 1 2 1", "ok"), ("verdict", "rises 0"),
            ("weigh h 1 1 2", "ok"), ("verdict", "rises 0"), ("weigh g 1 2 2", "ok"), ("verdict", "good"), ("weigh f 6 1 1 2 3 4 5 999999", "ok"),
            ("weigh f 2 999999 1 1", "ok"), ("weigh f 0 1", "ok"))

    def test_let(self):
        self.dialog(
            ("let x f(a, [b]b)", "4"), ("let abcdefgh X", "1"), ("let y $x", "4"), ("rule f(X, Y) -> Y", "0"), ("steps $y", "1"),
            ("end $x", "[a]a | 1"), ("let x a", "1"), ("steps $x", "0"), ("steps $y", "1"), ("let x [a]$y", (NoText, 3)), ("let x $x", "1"),
            ("steps $abcdefgh", "0"), ("end $abcdefgh", HasHoles), ("let x g((a b)X)", "2"), ("let rule p()", "1"), ("steps $rule", "0"))

    def test_steps_and_end(self):
        self.dialog(
            ("steps X", "0"), ("end a", "a | 0"), ("end [q]q", "[a]a | 0"), ("rule h(X) -> X", "0"), ("rule [a]f(X, a) -> X if a # X", "1"),
            ("steps h(h(h(X)))", "3"), ("steps [b]f(X, b)", "0"), ("steps [b]f(c, b)", "1"), ("end h(h(h(a)))", "a | 3"),
            ("end [c]f(h([d]d), c)", "[a]a | 2"), ("end h(X)", HasHoles), ("end [a]X", HasHoles), ("rule p() -> p()", "2"), ("steps p()", "1"),
            ("end p()", (TooLong, 200)))

    def test_verdict(self):
        desk = self.dialog(("verdict", "good"), ("rule k(X, Y) -> X", "0"), ("weigh k 2 1 1 1", "ok"), ("verdict", "good"), ("rule k(X, Y) -> Y", "1"))
        word, text = desk.tell("verdict").split(" ", 1)
        self.assertEqual(word, "apart")
        self.assertEqual((desk.tell("steps " + text), desk.tell("end " + text)[-4:]), ("2", " | 1"))
        self.assertEqual(answer(desk, "same a | a")[:1], (NotGood,))
        self.assertEqual(answer(desk, "same a | a")[1][0], "apart")
        self.goes_on(desk, ("drop 1", "ok"), ("rule k(X, X) -> k(X, X)", "1"), ("verdict", "rises 1"),
                     ("same a | a", (NotGood, ("rises", 1, {"X": 1}))), ("rule z() -> a()", "2"), ("verdict", NoWeighing), ("same a | a", NoWeighing))

    def test_same(self):
        self.dialog(
            ("same a | a", "same 0"), ("same a | b", "unlike a | b"), ("same [a]a | [b]b", "same 0"), ("same [q]f(q, b) | c", "unlike [a]f(a, b) | c"),
            ("rule h(X) -> X", "0"), ("same a | a", NoWeighing), ("same X | a", HasHoles), ("weigh h 1 1 1", "ok"),
            ("same h(h(a)) | h(a)", "same 3"), ("same a | h(a)", "same 1"), ("same h(a) | h(h(b))", "unlike a | b"), ("same X | a", HasHoles),
            ("same a | X", HasHoles), ("let x h([c]c)", "3"), ("same $x | [a]a", "same 1"), ("same [a]a | $x", "same 1"), ("same $x | $x", "same 2"),
            ("same $x | z9(a)", "unlike [a]a | z9(a)"))

    def test_same_parted(self):
        desk = desk_of("let x a")
        self.goes_on(
            desk, ("same a", NoLine), ("same", NoLine), ("same a |", NoLine), ("same | a", NoLine), ("same |", NoLine), ("same a | b | c", NoLine),
            ("same a | b | c | d", NoLine), ("same a | | b", (NoText, 0)), ("same | | a", (NoText, 0)), ("same a|b", NoLine), ("same a| b", NoLine),
            ("same a |b", NoLine), ("same | | |", (NoText, 0)), ("same | | | |", (NoText, 0)), ("same a$ | b", (NoText, 1)), ("same a b | c", (NoText, 1)),
            ("same a | b c", (NoText, 1)), ("same f(a | b)", (NoText, 3)), ("same f( | (b", (NoText, 2)), ("same $x | f(a", (NoText, 3)),
            ("same f(a | $x", (NoText, 3)))
        self.goes_on(desk, ("same $y | a", NoLine), ("same a | $y", NoLine), ("same f( | $y", NoLine), ("same $y | f(", NoLine), ("same X | $y", NoLine),
                     ("same $ | a", NoLine), ("same $x | $x y", NoLine), ("same $x y | f(", NoLine), ("same X | f(", (NoText, 2)))

    def test_asks(self):
        self.dialog(
            ("answer", "- | -"), ("ask X = f(Y)", "0"), ("answer", "- | X := f(Y)"), ("ask a # X", "1"), ("answer", "a # Y | X := f(Y)"),
            ("ask Y = a", (Clash, (0, 1))), ("ask a # a", (Clash, ())), ("forget 1", "ok"), ("forget 1", (Missing, 1)), ("ask Y = a", "2"),
            ("answer", "- | X := f(a); Y := a"), ("forget 7", (Missing, 7)), ("forget 0", "ok"), ("forget 2", "ok"), ("answer", "- | -"),
            ("ask (a b)Z = [c]c", "3"), ("ask b # X", "4"), ("ask a # W", "5"), ("answer", "a # W, b # X | Z := [c]c"))

    def test_answers_are_those_of_asks(self):
        chance = drawn(331)
        desk, asks = Desk(), Asks()
        for _ in range(120):
            ask = joint_ask(chance)
            try:
                wanted = str(asks.put(ask))
            except Clash as clash:
                wanted = Clash
                self.assertEqual(answer(desk, "ask " + ask_text(ask))[0], Clash)
                self.assertEqual(type(clash.lot), tuple)
            if wanted != Clash:
                self.assertEqual(desk.tell("ask " + ask_text(ask)), wanted)
            if len(asks) > 5:
                number = chance.choice(asks.numbers())
                asks.take(number)
                self.assertEqual(desk.tell("forget " + str(number)), "ok")

    def test_shelf(self):
        self.dialog(
            ("shelf [b]b", "0"), ("shelf [c]c", "0"), ("shelf a", "1"), ("shown 0", "[a]a"), ("shown 1", "a"), ("shown 2", (Missing, 2)),
            ("gone 0", "ok"), ("shown 0", "[a]a"), ("gone 0", "ok"), ("shown 0", (Missing, 0)), ("gone 0", (Missing, 0)), ("shelf [a]a", "2"),
            ("let x [q]f(q, a)", "4"), ("shelf $x", "3"), ("shown 3", "[b]f(b, a)"), ("shelf X", HasHoles), ("shelf $y", NoLine),
            ("shelf f(X", (NoText, 3)), ("shown 000", NoLine))

    def test_texts(self):
        self.dialog(
            ("rule h(X) -> Y", (NoText, 9)), ("rule h(X)", (NoText, 4)), ("rule h(X) - X", (NoText, 6)), ("rule $x", (NoText, 0)),
            ("rule [a]X -> X", (NoText, 9)), ("rule h(X) -> X if b # X, a # X", (NoText, 25)), ("ask $x", (NoText, 0)), ("ask a", (NoText, 1)),
            ("ask a = $x", (NoText, 4)), ("ask (b a)X = a", (NoText, 10)), ("let x f(a,b)", (NoText, 4)), ("let x f($x)", (NoText, 2)),
            ("let x -", (NoText, 0)), ("steps f(a b)", (NoText, 3)), ("steps a$x", (NoText, 1)), ("end (b a)X", (NoText, 6)), ("end F", HasHoles),
            ("shelf 7", (NoText, 0)), ("shelf abcdefghi", (NoText, 8)), ("same a | 7", (NoText, 0)), ("same f(7) | 7", (NoText, 2)))


class NoLines(DeskTest):
    def test_words(self):
        desk = desk_of("let x a", "rule h(X) -> X", "shelf a", "ask a = a")
        before = shown(desk)
        for line in [
            "", " ", "  ", "x", "Rule h(X) -> X", "rules h(X) -> X", "rule", "rule ", " rule h(X) -> X", "rule  h(X) -> X", "rule h(X)  -> X",
            "rule h(X) -> X ", "rule\nh(X) -> X", "rule h(X) -> X\n", "\nrule h(X) -> X", "rule h(X)\n-> X", "drop", "drop x", "drop 00", "drop 01",
            "drop 0 0", "drop -0", "drop -1", "drop +0", "drop 1000000", "drop 0000000", "drop 0x", "drop 0.", "drop h(X) -> X", "weigh", "weigh g",
            "weigh g 0", "weigh g 1 1", "weigh g 0 1 1", "weigh g 1 1 1 1", "weigh g 2 1 1", "weigh g 7 1 1 1 1 1 1 1 1", "weigh g 1 0 1",
            "weigh g 1 1 0", "weigh g 2 1 1 0", "weigh g 0 0", "weigh G 0 1", "weigh 1 0 1", "weigh abcdefghi 0 1", "weigh g 00 1", "weigh g 0 01",
            "weigh g 1 1 01", "weigh g x 1", "weigh g 0 x", "weigh g 1 1 x", "weigh g -1 1", "weigh g 0 1000000", "weigh g 1 1 1000000", "weigh g 0, 1",
            "let", "let x", "let x1 a", "let X a", "let abcdefghi a", "let $x a", "let x $", "let x $y", "let x $x1", "let x $x b", "let x $X", "let a",
            "let 1 a", "let x- a", "let f(a) b", "steps", "steps $", "steps $y", "steps $x $x", "steps $xx", "steps $x)", "end", "end $y", "verdict x",
            "verdict 0", "verdict -", "verdicts", "ask", "forget", "forget x", "forget 00", "forget 0 1", "answer x", "answer 0", "shelf", "shelf $y",
            "shelf $ a", "gone", "gone x", "gone 00", "gone 0 0", "shown", "shown x", "shown 01", "shown 0 0", "undo x", "undo 1", "undo undo", "trial",
            "trial ", "trial x", "trial trial verdict", "trial undo", "trial log 0", "log", "log x", "log 00", "log -1", "log 0 0", "log 1000000",
            "log  0", "log 0 ", "log 0\n", "entries", "tell verdict", "read a", "mend", "RULE", "$x", "a", "h(X) -> X", "steps  a", "steps a  b", "verdict\n",
            "undo\n", "log\n0", "\n", "answer\n", "let  x a", "let x  a", "drop\n0",
        ]:
            self.assertEqual(answer(desk, line), (NoLine,), line)
        self.assertEqual(shown(desk), before)

    def test_numbers_of_six_figures(self):
        self.dialog(("drop 999999", (Missing, 999999)), ("forget 100000", (Missing, 100000)), ("gone 999999", (Missing, 999999)),
                    ("shown 123456", (Missing, 123456)), ("weigh g 1 999999 999999", "ok"), ("log 999999", WHOLE))

    def test_words_ahead_of_texts(self):
        self.dialog(("let X f(", NoLine), ("let x1 f(", NoLine), ("steps f(  ", NoLine), ("steps f(a,  b)", NoLine), ("steps f(\n", NoLine),
                    ("let x f( ", NoLine), ("rule h(X)  -> Y", NoLine), ("ask a =", (NoText, 3)), ("ask a = ", NoLine), ("ask  f(", NoLine))

    def test_refusals_in_order(self):
        desk = desk_of("rule k(X, Y) -> X", "rule k(X, Y) -> Y")
        self.goes_on(desk, ("same X | f(", (NoText, 2)), ("same X | a", HasHoles), ("same a | a", NoWeighing), ("weigh k 2 1 1 1", "ok"),
                     ("same X | a", HasHoles), ("same a | a", NotGood), ("end X", HasHoles), ("end f(X", (NoText, 3)), ("shelf [a]X", HasHoles))


WHOLE = " | ".join(f"{word} {line}" for line, end in [
    ("drop 999999", "refused"), ("forget 100000", "refused"), ("gone 999999", "refused"), ("shown 123456", "refused"), ("weigh g 1 999999 999999", "done")]
    for word in ("begun", end))


class Undo(DeskTest):
    def test_each_kind(self):
        first = ["rule h(X) -> X", "rule g(X) -> h(X)", "weigh h 1 1 1", "let x h(a)", "ask X = Y", "ask a # X", "shelf a", "shelf b"]
        for line in ["rule p() -> q()", "drop 0", "drop 1", "weigh h 1 2 1", "weigh h 0 1", "let x a", "let y a", "let x h(b)", "ask b # Y", "forget 0",
                     "forget 1", "shelf a", "shelf c", "gone 0", "gone 1", "trial shelf q; gone 0; drop 0; let y b", "trial answer; shelf a; steps $x",
                     "trial let x a; let x h(a)"]:
            desk = desk_of(*first)
            before = shown(desk)
            told = answer(desk, line)
            self.assertIsInstance(told, str)
            self.goes_on(desk, ("undo", "undone"))
            self.assertEqual(shown(desk), before, line)
            self.assertEqual(desk.tell(line), told)
            for _ in range(9):
                self.assertEqual(desk.tell("undo"), "undone")
            self.assertEqual(answer(desk, "undo"), (NoUndo,))
            self.assertEqual(shown(desk), shown(Desk()))

    def test_what_changes_nothing_is_not_undone(self):
        desk = desk_of("rule h(X) -> X", "weigh h 1 1 1", "let x h([a]b)", "shelf a")
        for line in ["steps a", "end a", "verdict", "same a | b", "answer", "shown 0", "log 3", "let x h([a]b)", "let x $x", "weigh h 1 1 1",
                     "trial verdict", "trial let x h([a]b); weigh h 1 1 1; steps $x"]:
            self.assertIsInstance(desk.tell(line), str)
        for line in ["drop 7", "let x f(", "trial shelf b; gone 9", "x", "same $z | a", "ask a # a", "forget 0", "gone 8", "shelf X", "weigh h 1 1"]:
            self.assertIsInstance(answer(desk, line), tuple)
        self.goes_on(desk, ("undo", "undone"), ("shown 0", (Missing, 0)), ("undo", "undone"), ("steps $x", NoLine), ("undo", "undone"),
                     ("verdict", NoWeighing), ("undo", "undone"), ("verdict", "good"), ("undo", NoUndo))

    def test_let_of_an_alike_term_changes(self):
        self.dialog(("let x [a]a", "2"), ("let x [b]b", "2"), ("undo", "undone"), ("steps $x", "0"), ("undo", "undone"), ("steps $x", NoLine))
        self.dialog(("let x a", "1"), ("let x a", "1"), ("undo", "undone"), ("undo", NoUndo))
        self.dialog(("let x a", "1"), ("let y a", "1"), ("undo", "undone"), ("steps $x", "0"), ("undo", "undone"), ("undo", NoUndo))
        self.dialog(("let x X", "1"), ("let x (a b)X", "1"), ("undo", "undone"), ("undo", "undone"), ("undo", NoUndo))

    def test_weigh_of_another_number_changes(self):
        self.dialog(("weigh h 1 1 1", "ok"), ("weigh h 1 1 2", "ok"), ("weigh h 1 1 2", "ok"), ("weigh h 2 1 1 2", "ok"), ("undo", "undone"),
                    ("undo", "undone"), ("rule h(X) -> X", "0"), ("verdict", "good"), ("undo", "undone"), ("undo", "undone"), ("undo", NoUndo))

    def test_numbers_are_given_again(self):
        self.dialog(("ask X = a", "0"), ("ask Y = a", "1"), ("undo", "undone"), ("ask Z = a", "1"), ("forget 1", "ok"), ("ask Z = a", "2"),
                    ("undo", "undone"), ("undo", "undone"), ("answer", "- | X := a; Z := a"), ("ask Y = b", "2"), ("shelf a", "0"), ("shelf b", "1"),
                    ("undo", "undone"), ("shelf c", "1"), ("gone 1", "ok"), ("undo", "undone"), ("shown 1", "c"), ("shelf b", "2"))

    def test_undone_lines_and_new_ones(self):
        self.dialog(("let x a", "1"), ("let x b", "1"), ("undo", "undone"), ("let x c", "1"), ("undo", "undone"), ("end $x", "a | 0"),
                    ("undo", "undone"), ("undo", NoUndo), ("let x b", "1"), ("undo", "undone"), ("undo", NoUndo))

    def test_drawn(self):
        """Behind undo a desk is as one that was told just the lines that are left."""
        chance = drawn(332)
        for _ in range(12):
            desk, left = Desk(), []
            for _ in range(40):
                line = some_line(chance)
                many = len(desk.past)
                told = answer(desk, line)
                if line == "undo":
                    self.assertEqual(told, "undone" if left else (NoUndo,))
                    left = left[:-1]
                elif len(desk.past) > many:
                    self.assertIsInstance(told, str)
                    left.append(line)
            self.assertEqual(shown(desk), shown(desk_of(*left)))


def some_line(chance, within=False):
    """Some line, perhaps one that is refused."""
    number = chance.randrange(3)
    kinds = [
        lambda: "rule " + rule_text(chance.choice(some_book(chance))), lambda: f"drop {number}",
        lambda: f"weigh {chance.choice('gh')} 1 {1 + number} {chance.randrange(1, 3)}",
        lambda: f"let {chance.choice('xy')} " + chance.choice(["$x", "$y", term_text(some_term(chance, 2))]),
        lambda: "ask " + ask_text(joint_ask(chance)), lambda: f"forget {number}", lambda: f"gone {number}",
        lambda: "shelf " + chance.choice(["$x", "$y", term_text(some_term(chance, 2, FIVE[:2], []))]),
        lambda: chance.choice(["verdict", "answer", "steps $x", "shown 0", "", "end p()"]),
    ]
    if not within:
        kinds += [lambda: "undo"] * 3
        kinds += [lambda: "trial " + "; ".join(some_line(chance, True) for _ in range(chance.randrange(1, 4)))]
    return chance.choice(kinds)()


class Trial(DeskTest):
    def test_all_done(self):
        desk = self.dialog(
            ("trial rule h(X) -> X", "0"), ("trial rule g(X) -> h(X); weigh g 1 2 1; weigh h 1 1 1; verdict", "1; ok; ok; good"),
            ("trial let x g(a); end $x; let x $x; steps $x; same $x | a", "2; a | 2; 2; 1; same 2"),
            ("trial shelf a; shelf b; gone 0; shown 1; ask X = Y; ask X = a; answer", "0; 1; ok; b; 0; 1; - | X := a; Y := a"))
        self.goes_on(desk, ("undo", "undone"), ("shown 1", (Missing, 1)), ("answer", "- | -"), ("steps $x", "1"), ("undo", "undone"), ("steps $x", NoLine),
                     ("steps g(h(a))", "2"), ("undo", "undone"), ("steps g(h(a))", "1"), ("verdict", NoWeighing), ("undo", "undone"),
                     ("steps g(h(a))", "0"), ("undo", NoUndo))

    def test_refused_whole(self):
        desk = desk_of("rule h(X) -> X", "shelf a", "ask X = a", "let x a")
        before = shown(desk)
        for line, refusal in [
            ("drop 9", (Missing, 9)), ("shelf X", (HasHoles,)), ("ask X = b", (Clash, (0,))), ("let x f(", (NoText, 2)), ("steps $z", (NoLine,)),
            ("x", (NoLine,)), ("gone 7", (Missing, 7)), ("verdict", (NoWeighing,)), ("verdict x", (NoLine,)), ("same a b | c", (NoText, 1)),
            ("weigh g 1 1", (NoLine,)), ("drop 00", (NoLine,)), ("same a", (NoLine,)), (";", (NoLine,)), ("verdict;", (NoLine,)), ("steps a;", (NoText, 1)),
        ]:
            for trial in (f"trial {line}", f"trial {line}; shelf b", f"trial rule g(X) -> X; {line}", f"trial let x b; {line}; drop 0; gone 5",
                          f"trial shelf b; gone 0; ask Y = b; forget 0; let y c; rule g(X) -> X; weigh p 0 3; drop 0; {line}" if line != "ask X = b" else
                          f"trial shelf b; ask Y = b; {line}", f"trial {line}; {line}; x"):
                self.assertEqual(answer(desk, trial), refusal, trial)
                self.assertEqual(shown(desk), before, trial)
        self.goes_on(desk, ("undo", "undone"), ("undo", "undone"), ("undo", "undone"), ("undo", "undone"), ("undo", NoUndo))

    def test_first_refused_line_counts(self):
        self.dialog(("trial drop 0; x", (Missing, 0)), ("trial x; drop 0", NoLine), ("trial shelf a; drop 3; steps f(; x", (Missing, 3)),
                    ("trial steps f(; drop 3", (NoText, 2)), ("trial shown 0; shelf a", (Missing, 0)), ("trial shelf a; shown 0", "0; a"))

    def test_barred_words(self):
        desk = desk_of("shelf a", "let x a")
        before = shown(desk)
        for word in ("trial", "undo", "log", "trial verdict", "undo x", "log 3", "log x", "trial shelf b", "trial trial", "undo undo"):
            for line in (f"trial {word}", f"trial shelf b; {word}", f"trial {word}; shelf b", f"trial drop 9; {word}", f"trial x; {word}; y",
                         f"trial steps f(; shelf b; {word}"):
                self.assertEqual(answer(desk, line), (NoLine,), line)
        self.assertEqual(shown(desk), before)
        # Words that only begin so are no lines either, but the ones ahead of them are told.
        self.goes_on(desk, ("trial drop 9; undone", (Missing, 9)), ("trial drop 9; logs 3", (Missing, 9)), ("trial drop 9; trials", (Missing, 9)),
                     ("trial logs 3", NoLine))

    def test_own_blanks(self):
        desk = desk_of("shelf a")
        for line in ("trial drop 9;  shelf b", "trial  drop 9", "trial drop 9; shelf b ", "trial drop 9; shelf\nb", "trial drop 9\n", "trial drop 9; ",
                     "trial drop 9; shelf f(a,  b)", " trial drop 9", "trial drop 9;  log 3"):
            self.assertEqual(answer(desk, line), (NoLine,), line)
        # In the line, but not side by side: the first line that is refused counts.
        self.goes_on(desk, ("trial drop 9; ; shelf b", (Missing, 9)), ("trial ; drop 9", NoLine), ("trial drop 9 ; shelf b", NoLine),
                     ("trial drop 9;shelf b", NoLine), ("trial shelf b;shelf c", (NoText, 1)), ("trial drop 9; shelf b;", (Missing, 9)), ("shown 1", (Missing, 1)))


class Log(DeskTest):
    def test_by_hand(self):
        desk = self.dialog(
            ("log 0", "none"), ("log 5", "none"), ("shelf a", "0"), ("log 5", "begun shelf a | done shelf a"), ("log 1", "done shelf a"), ("x  y", NoLine),
            ("", NoLine), ("log 4", "begun x  y | refused x  y | begun  | refused "), ("log 0", "none"), ("log x", NoLine), ("log", NoLine),
            ("undo", "undone"), ("undo", NoUndo), ("log 5", "refused  | begun undo | done undo | begun undo | refused undo"),
            ("log 2", "begun undo | refused undo"), ("log 999999", "begun shelf a | done shelf a | begun x  y | refused x  y | begun  | refused  | begun undo | "
                                             "done undo | begun undo | refused undo"))
        self.assertEqual(desk.entries(), [("begun", "shelf a"), ("done", "shelf a"), ("begun", "x  y"), ("refused", "x  y"), ("begun", ""), ("refused", ""),
                                          ("begun", "undo"), ("done", "undo"), ("begun", "undo"), ("refused", "undo")])

    def test_trials_are_one_line(self):
        desk = Desk()
        lines = ["trial shelf a; shelf b", "trial shelf a; drop 9", "trial shelf a; log 3", "trial verdict"]
        told = [answer(desk, line) for line in lines]
        self.assertEqual(told, ["0; 1", (Missing, 9), (NoLine,), "good"])
        self.assertEqual(desk.entries(), [(word, line) for line, end in zip(lines, ["done", "refused", "refused", "done"]) for word in ("begun", end)])

    def test_first_words(self):
        desk = Desk()
        for line in ["log", "log ", "log  3", "log x y", "log 3", "log 0\n", "log  "]:
            answer(desk, line)
            self.assertEqual(desk.entries(), [])
        lines = [" log 3", "log\n", "Log 3", "logs", "", " ", "lo g", "\n", "log\n3", "-log 3"]
        for line in lines:
            self.assertEqual(answer(desk, line), (NoLine,))
        self.assertEqual(desk.entries(), [(word, line) for line in lines for word in ("begun", "refused")])
        self.assertEqual(desk.tell("log 2"), "begun -log 3 | refused -log 3")

    def test_all_kinds_of_refusals(self):
        desk = desk_of("rule p() -> p()", "ask a = a", "ask X = a")
        for line, refusal in [("end p()", TooLong), ("same a | a", NoWeighing), ("ask X = b", Clash), ("drop 7", Missing), ("shelf X", HasHoles),
                              ("let x f(", NoText), ("shown 7", Missing)]:
            self.assertEqual(answer(desk, line)[0], refusal)
            self.assertEqual(desk.entries()[-2:], [("begun", line), ("refused", line)])
        self.goes_on(desk, ("weigh p 0 1", "ok"), ("same a | a", NotGood))
        self.assertEqual(desk.entries()[-2:], [("begun", "same a | a"), ("refused", "same a | a")])

    def test_undo_takes_nothing_out(self):
        desk = desk_of("shelf a", "undo", "shelf b", "trial shelf c; shelf d", "undo", "undo")
        self.assertEqual([line for _, line in desk.entries()][::2], ["shelf a", "undo", "shelf b", "trial shelf c; shelf d", "undo", "undo"])
        self.assertEqual(len(desk.entries()), 12)

    def test_lists_changed(self):
        desk = desk_of("shelf a")
        told = desk.entries()
        self.assertEqual((type(told), [type(entry) for entry in told]), (list, [tuple, tuple]))
        told.clear()
        self.assertEqual(desk.entries(), [("begun", "shelf a"), ("done", "shelf a")])
        kept = desk.entries()
        desk.tell("shelf b")
        self.assertEqual(len(kept), 2)


class Desks(DeskTest):
    def test_two_desks(self):
        one, other = Desk(), Desk()
        before = shown(other)
        for line in ["rule h(X) -> X", "weigh h 1 1 1", "let x a", "ask X = a", "shelf a", "x"]:
            answer(one, line)
        self.assertEqual(shown(other)[:12], before[:12])
        self.assertEqual(len(one.entries()), 12)
        self.assertNotIn(("begun", "let x a"), other.entries())

    def test_books_at_the_desk(self):
        chance = drawn(333)
        for rules in GOOD[1:8]:
            desk = Desk()
            for number, rule in enumerate(rules):
                self.assertEqual(desk.tell("rule " + rule_text(rule)), str(number))
            for (f, many), (own, times) in W.items():
                desk.tell(" ".join(["weigh", f] + [str(one) for one in (many, own) + times]))
            self.assertEqual(desk.tell("verdict"), "good")
            for _ in range(5):
                text = term_text(some_subject(chance, rules))
                end, _, uses = desk.tell("end " + text).partition(" | ")
                self.assertEqual(desk.tell(f"same {text} | {end}"), "same " + uses)
                self.assertEqual(desk.tell(f"same {end} | {text}"), "same " + uses)
                self.assertEqual(desk.tell("steps " + end), "0")


if __name__ == "__main__":
    unittest.main()
