"""Which backs stand, and the forces by them: the same in all settlements that keep the rules."""
from whateverothers.clashes import Clash
from whateverothers.rules import first_cutter, go_wins


def standing(board, orders):
    """The ascending tuple of the places of the pieces whose backs stand."""
    stands = backs_that_stand(Clash(board, orders))
    return tuple([place for place, item in enumerate(stands) if item])


def force(board, orders, place):
    """The force of the piece with this place."""
    clash = Clash(board, orders)
    return clash.force_of(backs_that_stand(clash), place)


def backs_that_stand(clash):
    """For each piece whether it backs and its back stands."""
    places = range(len(clash.orders))
    uncut = [_fits_uncut(clash, place) for place in places]
    # Whether a piece that backs is pushed out hangs on backs aimed at its field alone. No go comes from there, so
    # none of them can be lost to one: those that are not cut stand.
    return [uncut[place] and not _is_pushed_out(clash, uncut, place) for place in places]


def _fits_uncut(clash, place):
    return clash.orders[place][0] == "back" and clash.is_fitting(place) and first_cutter(clash, place) is None


def _is_pushed_out(clash, stands, place):
    """Whether a go to this piece, which backs, wins; the own ones never do, and no goer is repelled there."""
    return any([go_wins(clash, stands, goer, place, None) for goer in clash.foreign_goers_to(place)])
