"""Settling: which gos win and which backs stand, and the rings that may go or not."""
from whateverothers.clashes import Clash
from whateverothers.forces import backs_that_stand
from whateverothers.rules import go_wins


def settled(board, orders):
    """The settlement that keeps the rules in which all loose rings go."""
    return settlement_of(Clash(board, orders))


def loose_rings(board, orders):
    """The ascending tuple of all loose rings."""
    _, hanging = _fates(Clash(board, orders))
    return _rings(hanging)


def settlements(board, orders):
    """The ascending tuple of all settlements that keep the rules."""
    clash = Clash(board, orders)
    _, hanging = _fates(clash)
    found = [settlement_of(clash)]
    for ring in _rings(hanging):
        # Nothing hangs on whether a loose ring goes but its own gos.
        found = found + [_with_ring_barred(settlement, ring) for settlement in found]
    return tuple(sorted(found))


def settlement_of(clash):
    """The settlement that keeps the rules in which all loose rings go, of the orders of clash."""
    told, hanging = _fates(clash)
    return tuple([told[_end(hanging, place)] for place in range(len(told))])


def _fates(clash):
    """What forces alone tell: bools for all pieces, and of each go that wins just if another one does, which one.

    Of a go that so hangs on another one the bool is True, as it is where it is one of a ring of such gos.
    """
    stands = backs_that_stand(clash)
    told = []
    hanging = {}
    for place, order in enumerate(clash.orders):
        if order[0] != "go":
            told.append(order[0] == "stay" or stands[place])
            continue
        wins_always = _wins_always(clash, stands, place)
        hangs = not wins_always and _wins_if_met_leaves(clash, stands, place)
        told.append(wins_always or hangs)
        if hangs:
            hanging[place] = clash.met_by(place)
    return told, hanging


def _wins_always(clash, stands, place):
    """Whether the go wins though the piece that it meets, if there is one, does not leave."""
    return go_wins(clash, stands, place, clash.met_by(place), None)


def _wins_if_met_leaves(clash, stands, place):
    """Whether the piece that the go meets may leave, and the go wins if it does."""
    met = clash.met_by(place)
    if met is None or not clash.goes_elsewhere(met, place):
        return False
    return go_wins(clash, stands, place, None, clash.met_by(met))


def _end(hanging, place):
    """Where one comes from place along gos that hang on each other: to one that hangs on none, or into a ring."""
    for _ in range(len(hanging)):
        if place not in hanging:
            break
        place = hanging[place]
    return place


def _rings(hanging):
    """The ascending tuple of the rings of gos that hang on each other, each with its least place first."""
    rings = []
    # Places were put into hanging in their order, so the rings ascend by their least places.
    for start in hanging:
        ring = _way_from(hanging, start)
        if hanging[ring[-1]] == start and min(ring) == start:
            rings.append(tuple(ring))
    return tuple(rings)


def _way_from(hanging, start):
    """The places to which one comes from start along gos that hang on each other, each once."""
    way = [start]
    while hanging[way[-1]] in hanging and hanging[way[-1]] not in way:
        way.append(hanging[way[-1]])
    return way


def _with_ring_barred(settlement, ring):
    return tuple([item and place not in ring for place, item in enumerate(settlement)])
