"""How terms, facts, asks, rules and fillings are written."""

from shutnames.asking import check_ask
from shutnames.fillings import check_facts, check_filling
from shutnames.rows import changed
from shutnames.rules import check_rule
from shutnames.terms import check_term
from shutnames.turns import rounds_of


def round_text(ring):
    """A round of a turn as a text."""
    names = " ".join(ring)
    return f"({names})"


def part_text(part, told):
    """The text of a part, told being the texts of the parts in it."""
    if part[0] == "name":
        return part[1]
    if part[0] == "hole":
        return "".join([round_text(ring) for ring in rounds_of(part[1])]) + part[2]
    if part[0] == "shut":
        return f"[{part[1]}]{told[0]}"
    inside = ", ".join(told)
    return f"{part[1]}({inside})"


def written(term):
    """The text of what is known to be a term."""
    return changed(term, part_text)


def facts_written(facts):
    """The text of what is known to be facts."""
    return ", ".join([f"{name} # {hole}" for name, hole in facts]) or "-"


def filling_written(filling):
    """The text of what is known to be a filling."""
    return "; ".join([hole + " := " + written(term) for hole, term in filling]) or "-"


def term_text(term):
    """The text of the term."""
    check_term(term)
    return written(term)


def facts_text(facts):
    """The text of the facts."""
    check_facts(facts)
    return facts_written(facts)


def ask_text(ask):
    """The text of the ask."""
    check_ask(ask)
    kind, one, other = ask
    return f"{written(one)} = {written(other)}" if kind == "alike" else f"{one} # {written(other)}"


def rule_text(rule):
    """The text of the rule, closed or not."""
    check_rule(rule)
    facts, left, right = rule
    sides = f"{written(left)} -> {written(right)}"
    return f"{sides} if {facts_written(facts)}" if facts else sides


def filling_text(filling):
    """The text of the filling."""
    check_filling(filling)
    return filling_written(filling)


def word_of(term):
    """The term's text in words of base sixteen: two signs for each sign's place from the blank on."""
    return "".join([f"{ord(sign) - 32:02x}" for sign in term_text(term)])
