"""How far the program goes where it is told no other bound."""

MOST_USES = 200
MOST_RULES = 6
