"""Texts read: just those that the writers write."""

from shutnames.errors import NoText
from shutnames.names import FIGURES, GREAT_LETTERS, SMALL_LETTERS, rises
from shutnames.rules import is_closed_rule
from shutnames.scanning import Scanner, facts_scanned, pairs_scanned, term_scanned


def read_term(text):
    """The term of which this is the text."""
    scanner = Scanner(text)
    term = term_scanned(scanner)
    scanner.end(True)
    return term


def stroke_or(scanner, things_scanned):
    """An empty tuple where a stroke stands, else the things that a function reads."""
    if scanner.sees("-"):
        scanner.read("-")
        return ()
    return things_scanned(scanner)


def read_facts(text):
    """The facts of which this is the text."""
    scanner = Scanner(text)
    facts = stroke_or(scanner, facts_scanned)
    scanner.end(rises(facts))
    return facts


def read_ask(text):
    """The ask of which this is the text."""
    scanner = Scanner(text)
    one = term_scanned(scanner)
    scanner.read(" ")
    if one[0] == "name" and scanner.sees("#"):
        scanner.read("# ")
        ask = ("fresh", one[1], term_scanned(scanner))
    else:
        scanner.read("= ")
        ask = ("alike", one, term_scanned(scanner))
    scanner.end(True)
    return ask


def read_rule(text):
    """The closed rule of which this is the text."""
    scanner = Scanner(text)
    left = term_scanned(scanner)
    scanner.read(" -> ")
    right = term_scanned(scanner)
    facts = ()
    if scanner.at < len(text):
        scanner.read(" if ")
        facts = facts_scanned(scanner)
    rule = (facts, left, right)
    scanner.end(is_closed_rule(rule))
    return rule


def read_filling(text):
    """The filling of which this is the text."""
    scanner = Scanner(text)
    filling = stroke_or(scanner, pairs_scanned)
    scanner.end(rises([hole for hole, _ in filling]))
    return filling


def text_of_word(word):
    """The text that a word tells two figures a sign; None where it tells none of the signs of terms."""
    signs = {f"{ord(sign) - 32:02x}": sign for sign in SMALL_LETTERS + GREAT_LETTERS + FIGURES + " (),[]"}
    pairs = [word[at:at + 2] for at in range(0, len(word), 2)]
    if not all([pair in signs for pair in pairs]):
        return None
    return "".join([signs[pair] for pair in pairs])


def read_word(text):
    """The term of whose text this is the word."""
    inside = text_of_word(text)
    if inside is None:
        raise NoText(len(text))
    try:
        return read_term(inside)
    except NoText:
        raise NoText(len(text)) from None
