"""Bars: what foreign pieces may do against an own one's order, and who may help and cut there."""
from whateverothers.boards import field_of, place_in
from whateverothers.charts import near
from whateverothers.sound import is_going, own_met_by


def bars(board, own, place):
    """The tuple of the bars of the own piece with this place, own being sound own orders."""
    return tuple([_bar(board, own, place, kind, main, aim) for kind, main, aim in _mains(board, own, place)])


def cut_pairs(board, bar):
    """The ascending tuple of the pairs of a cutter of bar and a back of bar that it can cut."""
    _, _, _, cutters, backs = bar
    return tuple([(cutter, back) for cutter in cutters for back in backs if _are_near(board, cutter, back)])


def _mains(board, own, place):
    """The kinds of the bars, in order, each with the place of its main and the field at which it is aimed."""
    field = field_of(board, place)
    if not is_going(own, place):
        return [("pusher", main, field) for main in _foreign_near(board, own, field)]
    goal = own[place][1]
    passed = _passed_by_own(board, own, place)
    rivals = [("rival", main, goal) for main in _foreign_near(board, own, goal) if main != passed]
    met = place_in(board, goal)
    if met is None or own[met] is not None:
        return rivals
    return [("holder", met, goal), ("meeter", met, field), *rivals]


def _bar(board, own, place, kind, main, aim):
    helpers = _helpers(board, own, place, main, aim)
    backs = _backs(board, own, place)
    return (kind, main, helpers, _cutters(board, own, place, (main, *helpers), backs), backs)


def _helpers(board, own, place, main, aim):
    """The foreign pieces that may back the main at the field aimed at."""
    # Behind an own piece that wins, the one in the field where this goes to is repelled or pushed out; and that the
    # own piece wins is looked at in its own bars.
    passed = _passed_by_own(board, own, place)
    return tuple([other for other in _foreign_near(board, own, aim)
                  if other not in (main, passed) and not _is_struck(board, own, other, aim)])


def _cutters(board, own, place, taken, backs):
    """The foreign pieces that are not taken and may come at one of the backs."""
    # A back that is aimed at a field is not cut by a go that comes from there.
    spared = own[place][1] if is_going(own, place) else None
    return tuple([other for other, order in enumerate(own)
                  if order is None and other not in taken and field_of(board, other) != spared
                  and any([_are_near(board, other, back) for back in backs])])


def _backs(board, own, place):
    """The places of the own pieces that back this one as it is ordered."""
    field = field_of(board, place)
    aim = own[place][1] if is_going(own, place) else field
    return tuple([other for other, order in enumerate(own) if order == ("back", field, aim)])


def _is_struck(board, own, place, aim):
    """Whether an own piece that stands elsewhere than in aim goes to the field of this foreign one."""
    field = field_of(board, place)
    return any([order == ("go", field) and field_of(board, other) != aim for other, order in enumerate(own)])


def _passed_by_own(board, own, place):
    """The place of the piece in the field to which the own piece goes that this one comes behind; or None."""
    if not is_going(own, place):
        return None
    ahead = own_met_by(board, own, place)
    if ahead is None:
        return None
    return place_in(board, own[ahead][1])


def _foreign_near(board, own, field):
    """The places of all foreign pieces in fields near field, ascending."""
    fields = near(board[0], field)
    return [place for place, order in enumerate(own) if order is None and field_of(board, place) in fields]


def _are_near(board, place, other):
    return field_of(board, place) in near(board[0], field_of(board, other))
