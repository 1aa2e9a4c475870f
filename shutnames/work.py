"""What stands at a desk, and what lines do with it."""

from shutnames.alike import check_plain, told_form
from shutnames.asks import Asks
from shutnames.chains import same
from shutnames.keeping import check_at
from shutnames.names import is_name
from shutnames.reading import read_ask, read_rule
from shutnames.rows import parts_in
from shutnames.shelf import Shelf
from shutnames.texts import facts_written, filling_written, written
from shutnames.uses import ended, steps_of
from shutnames.verdicts import verdict
from shutnames.words import check_blanks, check_own_name, check_words, number_of, terms_told, word_and_rest

MOST_PARTS = 6
OK = "ok"


class Work:
    """Rules, a weighing, asks, a shelf, and names for terms."""

    def __init__(self):
        self.rules = []
        self.weighing = {}
        self.asked = Asks()
        self.shelf = Shelf()
        self.named_terms = {}

    def copied(self):
        """A work that is as this one, and goes on by itself."""
        work = Work()
        work.rules = list(self.rules)
        work.weighing = {sign: self.weighing[sign] for sign in self.weighing}
        work.asked = self.asked.copied()
        work.shelf = self.shelf.copied()
        work.named_terms = dict(self.named_terms)
        return work


# Each function for a kind of line does it with a work and what stands behind the first word.
# It tells the answer, and whether something changed; what is refused may leave the work half done.

def rule_line(work, rest):
    """Put a rule behind the others."""
    check_words(rest != "")
    work.rules.append(read_rule(rest))
    return (str(len(work.rules) - 1), True)


def drop_line(work, rest):
    """Take a rule out."""
    number = number_of(rest)
    check_at(work.rules, number)
    work.rules.pop(number)
    return (OK, True)


def weigh_line(work, rest):
    """Say what a sign with so many parts weighs."""
    words = rest.split(" ")
    check_words(is_name(words[0]) and len(words) >= 3)
    count, own, *times = [number_of(word) for word in words[1:]]
    check_words(count <= MOST_PARTS and len(times) == count and own >= 1 and 0 not in times)
    before = work.weighing.get((words[0], count))
    work.weighing[(words[0], count)] = (own, tuple(times))
    return (OK, before != (own, tuple(times)))


def let_line(work, rest):
    """Let a name stand for a term."""
    name, text = word_and_rest(rest)
    check_own_name(name)
    term = terms_told(work.named_terms, [text])[0]
    # By texts, for Python compares tuples within one another by recursion.
    changes = name not in work.named_terms or written(work.named_terms[name]) != written(term)
    work.named_terms[name] = term
    return (str(len(parts_in(term))), changes)


def steps_line(work, rest):
    """Tell how many steps lead on from a term."""
    term = terms_told(work.named_terms, [rest])[0]
    return (str(len(steps_of(term, work.rules))), False)


def end_line(work, rest):
    """Tell a plain term's end, and the number of its uses."""
    term = terms_told(work.named_terms, [rest])[0]
    check_plain([term])
    end, _, uses = ended(term, work.rules)
    return (f"{written(told_form(end))} | {len(uses)}", False)


def verdict_line(work, rest):
    """Tell the verdict of the rules."""
    check_words(rest == "")
    told = verdict(work.rules, work.weighing)
    if told[0] == "apart":
        return (f"apart {written(told_form(told[1]))}", False)
    return (f"rises {told[1]}" if told[0] == "rises" else "good", False)


def same_line(work, rest):
    """Tell whether two terms are the same by the rules."""
    texts = rest.split(" | ")
    check_words(len(texts) == 2)
    one, other = terms_told(work.named_terms, texts)
    told = same(one, other, work.rules, work.weighing)
    if told[0] == "same":
        return (f"same {len(told[1])}", False)
    return (f"unlike {written(told[1])} | {written(told[2])}", False)


def ask_line(work, rest):
    """Keep an ask."""
    check_words(rest != "")
    return (str(work.asked.put(read_ask(rest))), True)


def forget_line(work, rest):
    """Let an ask go."""
    work.asked.take(number_of(rest))
    return (OK, True)


def answer_line(work, rest):
    """Tell the facts and the filling by which all asks are met."""
    check_words(rest == "")
    facts, filling = work.asked.answer()
    return (f"{facts_written(facts)} | {filling_written(filling)}", False)


def shelf_line(work, rest):
    """Put a term on the shelf."""
    return (str(work.shelf.put(terms_told(work.named_terms, [rest])[0])), True)


def gone_line(work, rest):
    """Let a term on the shelf go."""
    work.shelf.let_go(number_of(rest))
    return (OK, True)


def shown_line(work, rest):
    """Tell a term on the shelf."""
    return (written(work.shelf.term_of(number_of(rest))), False)


def trial_line(work, rest):
    """Do several lines one after the other."""
    lines = rest.split("; ")
    check_words(not any([word_and_rest(line)[0] in ("trial", "undo", "log") for line in lines]))
    told = [done_line(work, line) for line in lines]
    return ("; ".join([answer for answer, _ in told]), any([changes for _, changes in told]))


LINES = {
    "rule": rule_line, "drop": drop_line, "weigh": weigh_line, "let": let_line, "steps": steps_line, "end": end_line,
    "verdict": verdict_line, "same": same_line, "ask": ask_line, "forget": forget_line, "answer": answer_line,
    "shelf": shelf_line, "gone": gone_line, "shown": shown_line, "trial": trial_line,
}


def done_line(work, line):
    """Do a line with the work: the answer, and whether something changed."""
    check_blanks(line)
    word, rest = word_and_rest(line)
    check_words(word in LINES)
    do_line = LINES[word]
    return do_line(work, rest)
