"""What is kept under numbers."""

from shutnames.errors import Missing
from shutnames.names import is_number


def check_kept(kept, number):
    """Refuse what is no number among those that are kept, the keys of a dict or a list."""
    if not is_number(number) or number not in kept:
        raise Missing(number)


def check_at(things, number):
    """Refuse what is no number of a thing in a list, from 0 on."""
    check_kept(list(range(len(things))), number)
