"""Lots of asks, as rising tuples of their places in a list: which can be met together, and which can't."""

from shutnames.making import answered


def met_together(asks):
    """Whether one filling meets all asks of a list."""
    return answered(asks, ())[0] == "made"


def asks_at(asks, places):
    """The asks at these places of the list."""
    return [asks[at] for at in places]


def pared(asks, ask):
    """A least lot of the asks that can't be met together with one more ask; of all of them it is known already."""
    lot = list(range(len(asks)))
    for at in range(len(asks)):
        less = [other for other in lot if other != at]
        if not met_together(asks_at(asks, less) + [ask]):
            lot = less
    return lot


def grown(asks, lot):
    """A greatest lot that can be met together, with this one in it, which can."""
    most = list(lot)
    for at in range(len(asks)):
        if at not in lot and met_together(asks_at(asks, most + [at])):
            most.append(at)
    return tuple(sorted(most))


def without_wider(lots):
    """The lots of a list without doubles in which there is no other one of them."""
    return [lot for lot in lots if not any([less != lot and all([at in lot for at in less]) for less in lots])]


def reaching(lots, places):
    """The least lots that have all of one of these lots, and one of these places."""
    kept = [lot for lot in lots if any([at in places for at in lot])]
    wider = [tuple(sorted(lot + (at,))) for lot in lots for at in places if lot not in kept]
    return without_wider(sorted(set(kept + wider)))


def first_met(asks, lots, unmet):
    """The first of the lots that can be met together, or None; those that can't are put into the dict unmet."""
    for lot in lots:
        if lot not in unmet:
            if met_together(asks_at(asks, lot)):
                return lot
            unmet[lot] = True
    return None


def all_lots(asks):
    """The rising lists of the least lots that can't be met together, and of the greatest ones that can."""
    greatest = []
    unmet = {}
    # The least lots with a place outside of each greatest one that is found. One of them that can be met together
    # leads to another greatest one. Where none can, all are found: one that is lacking would have all of one of
    # these lots. And they are the least that can't be met: what is left of one less a place is in a greatest one.
    beyond = [()]
    lot = ()
    while lot is not None:
        greatest.append(grown(asks, lot))
        outside = [at for at in range(len(asks)) if at not in greatest[-1]]
        beyond = reaching(beyond, outside)
        lot = first_met(asks, beyond, unmet)
    return (beyond, sorted(greatest))
