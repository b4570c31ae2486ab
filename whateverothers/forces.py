"""Which backs stand, and the forces by them: the same in all settlements that keep the rules."""
from whateverothers.clashes import Clash
from whateverothers.rules import first_cutter, go_wins


def standing(board, orders):
    """The ascending tuple of the places of the pieces whose backs stand."""
    stands = backs_that_stand(Clash(board, orders))
    return tuple([place for place, item in enumerate(stands) if item])


def force(board, orders, place):
    """The force of the piece with this place."""
    clash = Clash(board, orders)
    return clash.force_of(backs_that_stand(clash), place)


def backs_that_stand(clash):
    """For each piece whether it backs and its back stands."""
    stands = [_stands_undisturbed(clash, place) for place in range(len(clash.orders))]
    contested = [place for place in range(len(clash.orders)) if _is_contested(clash, place)]
    # Whether a go pushes out a piece that backs hangs on backs aimed at this one's field alone, and there comes
    # no go from this field: so none of them is contested, and of each of them it is told above.
    pushed = [_is_pushed_out(clash, stands, place) for place in contested]
    for place, is_pushed in zip(contested, pushed):
        stands[place] = not is_pushed
    return stands


def _fits_uncut(clash, place):
    return clash.orders[place][0] == "back" and clash.is_fitting(place) and first_cutter(clash, place) is None


def _stands_undisturbed(clash, place):
    """Whether this piece backs, its back fits, and no foreign piece goes to its field."""
    return _fits_uncut(clash, place) and not clash.foreign_goers_to(place)


def _is_contested(clash, place):
    """Whether the back of this piece hangs on a go from the field that it is aimed at."""
    return _fits_uncut(clash, place) and len(clash.foreign_goers_to(place)) > 0


def _is_pushed_out(clash, stands, place):
    """Whether a go to this piece, which backs, wins; the own ones never do, and no goer is repelled there."""
    return any([go_wins(clash, stands, goer, place, None) for goer in clash.foreign_goers_to(place)])
