"""Bars: what foreign pieces may do against an own one's order, and who may help and cut there."""
from whateverothers.grounds import Ground
from whateverothers.sound import is_going, own_met_by


def bars(board, own, place):
    """The tuple of the bars of the own piece with this place, own being sound own orders."""
    return bars_of(Ground(board), own, place)


def cut_pairs(board, bar):
    """The ascending tuple of the pairs of a cutter of bar and a back of bar that it can cut."""
    return pairs_of(Ground(board), bar)


def bars_of(ground, own, place):
    """The tuple of the bars of the own piece with this place on this ground."""
    mains = _mains(ground, own, place)
    backs = _backs(ground, own, place)
    may_cut = _may_cut(ground, own, place, backs)
    may_help = {}
    for _, _, aim in mains:
        if aim not in may_help:
            may_help[aim] = _may_help(ground, own, place, aim)
    return tuple([_bar(kind, main, may_help[aim], may_cut, backs) for kind, main, aim in mains])


def pairs_of(ground, bar):
    """The cut pairs of a bar on this ground."""
    _, _, _, cutters, backs = bar
    return tuple([(cutter, back) for cutter in cutters for back in backs if ground.are_near(cutter, back)])


def _mains(ground, own, place):
    """The kinds of the bars, in order, each with the place of its main and the field at which it is aimed."""
    field = ground.fields[place]
    if not is_going(own, place):
        return [("pusher", main, field) for main in foreign_near(ground, own, field)]
    goal = own[place][1]
    passed = _passed_by_own(ground, own, place)
    rivals = [("rival", main, goal) for main in foreign_near(ground, own, goal) if main != passed]
    met = ground.place_in(goal)
    if met is None or own[met] is not None:
        return rivals
    return [("holder", met, goal), ("meeter", met, field), *rivals]


def _bar(kind, main, may_help, may_cut, backs):
    helpers = tuple([other for other in may_help if other != main])
    cutters = tuple([other for other in may_cut if other != main and other not in helpers])
    return (kind, main, helpers, cutters, backs)


def _may_help(ground, own, place, aim):
    """The foreign pieces that may back another one at the field aimed at, against the own one with this place."""
    # Behind an own piece that wins, the one in the field where this goes to is repelled or pushed out; and that the
    # own piece wins is looked at in its own bars.
    passed = _passed_by_own(ground, own, place)
    struck = [goal for start, goal in _gos(ground, own) if start != aim]
    return [other for other in foreign_near(ground, own, aim)
            if other != passed and ground.fields[other] not in struck]


def _may_cut(ground, own, place, backs):
    """The foreign pieces that may come at one of the backs, and cut it."""
    # A back that is aimed at a field is not cut by a go that comes from there.
    spared = own[place][1] if is_going(own, place) else None
    return [other for other, order in enumerate(own)
            if order is None and ground.fields[other] != spared
            and any([ground.are_near(other, back) for back in backs])]


def _backs(ground, own, place):
    """The places of the own pieces that back this one as it is ordered."""
    field = ground.fields[place]
    aim = own[place][1] if is_going(own, place) else field
    return tuple([other for other, order in enumerate(own) if order == ("back", field, aim)])


def _gos(ground, own):
    """The fields from which and to which own pieces go."""
    return [(ground.fields[place], own[place][1]) for place in range(len(own)) if is_going(own, place)]


def _passed_by_own(ground, own, place):
    """The place of the piece in the field to which the own piece goes that this one comes behind; or None."""
    if not is_going(own, place):
        return None
    ahead = own_met_by(ground, own, place)
    if ahead is None:
        return None
    return ground.place_in(own[ahead][1])


def foreign_near(ground, own, field):
    """The places of all foreign pieces in fields near field, ascending."""
    return [place for place in ground.places_near(field) if own[place] is None]
