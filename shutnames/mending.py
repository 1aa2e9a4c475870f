"""Books of rules mended: rules are put behind a book till it comes together."""

from shutnames.bounds import MOST_RULES
from shutnames.errors import NotGood, TooLong
from shutnames.rules import is_closed_rule
from shutnames.terms import holes_within
from shutnames.verdicts import check_book, first_rising, first_unlike
from shutnames.weighings import falls


def rule_between(one, other, facts, weighing):
    """The closed rule that falls and leads from one of two terms to the other under the facts; None where none does."""
    for left, right in ((one, other), (other, one)):
        holes = holes_within(left)
        rule = (tuple([fact for fact in facts if fact[1] in holes]), left, right)
        if is_closed_rule(rule) and falls(rule, weighing)[0]:
            return rule
    return None


def mended(rules, weighing, *, most=MOST_RULES):
    """The book with rules put behind till it comes together; or as far as it can be mended, and what is in the way."""
    check_book(rules, weighing)
    rising = first_rising(rules, weighing)
    if rising is not None:
        raise NotGood(rising)
    book = list(rules)
    unlike = first_unlike(book)
    while unlike is not None:
        one, other, facts = unlike[3]
        rule = rule_between(one, other, facts, weighing)
        if rule is None:
            return ("stuck", book, one, other, facts)
        if len(book) - len(rules) >= most:
            raise TooLong(most)
        book.append(rule)
        unlike = first_unlike(book)
    return ("good", book)
