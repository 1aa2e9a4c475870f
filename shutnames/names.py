"""Names and holes: how they are written, the row of names, and what rises."""

SMALL_LETTERS = "abcdefghijklmnopqrstuvwxyz"
GREAT_LETTERS = "ABCDEFGHIJKLMNOPQRSTUVWXYZ"
FIGURES = "0123456789"
MOST_SIGNS = 8


def is_word(thing, letters):
    """Whether it is a short text of these letters and figures, a letter ahead."""
    if not isinstance(thing, str) or not 1 <= len(thing) <= MOST_SIGNS:
        return False
    return thing[0] in letters and all([sign in letters + FIGURES for sign in thing])


def is_name(thing):
    """Whether a thing is a name; signs are called so, too."""
    return is_word(thing, SMALL_LETTERS)


def is_hole(thing):
    """Whether a thing is what a hole is called."""
    return is_word(thing, GREAT_LETTERS)


def is_number(thing):
    """Whether a thing is a whole number: Python's truths are whole numbers, but none here."""
    return isinstance(thing, int) and not isinstance(thing, bool)


def rises(things):
    """Whether each thing of a list or tuple is less than the next one."""
    return all([things[at] < things[at + 1] for at in range(len(things) - 1)])


def row_name(at):
    """The name with this number, from 0 on, in the row of names."""
    letter = SMALL_LETTERS[at % len(SMALL_LETTERS)]
    lap = at // len(SMALL_LETTERS)
    return f"{letter}{lap}" if lap else letter


def names_beside(taken, many):
    """The first so many names of the row that aren't among those taken."""
    found = []
    at = 0
    while len(found) < many:
        name = row_name(at)
        if name not in taken:
            found.append(name)
        at += 1
    return found


def holes_beside(taken, many):
    """So many holes that aren't among those taken."""
    return [name.upper() for name in names_beside([hole.lower() for hole in taken], many)]
