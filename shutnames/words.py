"""The words of a line at the desk, and the things that they stand for."""

from shutnames.errors import NoLine
from shutnames.names import FIGURES, MOST_SIGNS, SMALL_LETTERS
from shutnames.reading import read_term

MOST_FIGURES = 6


def check_words(right):
    """Refuse a line whose words aren't right."""
    if not right:
        raise NoLine("this is no line")


def check_blanks(line):
    """Refuse a line that isn't words with one blank between."""
    check_words("\n" not in line and "" not in line.split(" "))


def word_and_rest(text):
    """What stands ahead of the first blank, and what behind it."""
    word, _, rest = text.partition(" ")
    return (word, rest)


def number_of(word):
    """The number that is written so."""
    check_words(1 <= len(word) <= MOST_FIGURES and all([sign in FIGURES for sign in word]))
    check_words(word == "0" or word[0] != "0")
    return int(word)


def check_own_name(word):
    """Refuse what is no name for a term."""
    check_words(1 <= len(word) <= MOST_SIGNS and all([sign in SMALL_LETTERS for sign in word]))


def check_texts(named_terms, texts):
    """Refuse a line that lacks the text of a term, or tells it by a name that stands for none."""
    for text in texts:
        check_words(text != "")
        check_words(text[0] != "$" or text[1:] in named_terms)


def terms_told(named_terms, texts):
    """The terms of a line, each told by its text, or by a name behind $."""
    check_texts(named_terms, texts)
    return [named_terms[text[1:]] if text[0] == "$" else read_term(text) for text in texts]
