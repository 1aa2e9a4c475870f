"""Turns: they lead names to names, no two to one, and move finitely many."""

from shutnames.errors import NoName, NoTurn
from shutnames.names import is_name, rises


def is_move(thing):
    """Whether a thing is a tuple of two unlike names."""
    if not isinstance(thing, tuple) or len(thing) != 2:
        return False
    return is_name(thing[0]) and is_name(thing[1]) and thing[0] != thing[1]


def is_turn(thing):
    """Whether a thing is a turn."""
    if not isinstance(thing, tuple) or not all([is_move(move) for move in thing]):
        return False
    movers = [name for name, _ in thing]
    # A name that is led to but not moved would be led to twice: by itself, too.
    return rises(movers) and sorted([to for _, to in thing]) == movers


def check_turn(thing):
    """Refuse what is no turn."""
    if not is_turn(thing):
        raise NoTurn("this is no turn")


def turn_from(moves):
    """The turn of a dict from names to where they are led."""
    return tuple(sorted([(name, to) for name, to in moves.items() if name != to]))


def joined(first, second):
    """The turn of two dicts of moves, one done and then the other."""
    moves = dict(second)
    for name, to in first.items():
        moves[name] = second.get(to, to)
    return turn_from(moves)


def undone(turn):
    """The turn that undoes a turn."""
    return tuple(sorted([(to, name) for name, to in turn]))


def eased(turn, barred):
    """The turn that leads all names but those of a dict as this one does, and moves as few others as can be."""
    moves = {name: to for name, to in turn if name not in barred}
    led_to = {to: True for to in moves.values()}
    whole = dict(moves)
    for name, to in moves.items():
        if name not in led_to:
            # Nothing leads here any more: so the end of the way from here must.
            end = to
            while end in moves:
                end = moves[end]
            whole[end] = name
    return turn_from(whole)


def led_apart(first, second):
    """The rising list of the names that two dicts of moves lead to unlike ones."""
    moved = {**first, **second}
    return sorted([name for name in moved if first.get(name, name) != second.get(name, name)])


def turn_of(swaps):
    """The turn of a list of exchanges, the first one first."""
    if not all([is_name(one) and is_name(other) for one, other in swaps]):
        raise NoName("something that is exchanged is no name")
    moves = {}
    # From the last one on: an exchange ahead of a turn just exchanges where two names are led.
    for one, other in reversed(swaps):
        moves[one], moves[other] = moves.get(other, other), moves.get(one, one)
    return turn_from(moves)


def turned_name(turn, name):
    """Where the turn leads the name."""
    check_turn(turn)
    if not is_name(name):
        raise NoName("this is no name")
    return dict(turn).get(name, name)


def then_turn(one, other):
    """The turn that does one and then the other."""
    check_turn(one)
    check_turn(other)
    return joined(dict(one), dict(other))


def back_turn(turn):
    """The turn that undoes this one."""
    check_turn(turn)
    return undone(turn)


def apart_names(one, other):
    """The rising list of the names that the two turns lead to unlike ones."""
    check_turn(one)
    check_turn(other)
    return led_apart(dict(one), dict(other))


def ring_from(moves, name):
    """The round in which a moved name stands, from this name on."""
    ring = [name]
    while moves[ring[-1]] != name:
        ring.append(moves[ring[-1]])
    return tuple(ring)


def rounds_of(turn):
    """The rising list of the turn's rounds."""
    check_turn(turn)
    moves = dict(turn)
    rings = [ring_from(moves, name) for name, _ in turn]
    return [ring for ring in rings if ring[0] == min(ring)]


def swaps_of(turn):
    """As few exchanges as can be that make the turn."""
    # No fewer do: an exchange joins at most two rounds, so a round of n names wants n - 1.
    return [(ring[0], name) for ring in rounds_of(turn) for name in ring[1:]]
