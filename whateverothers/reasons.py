"""Why orders are settled as they are."""
from whateverothers.clashes import Clash
from whateverothers.rules import barrier_to, first_cutter, first_rival, holding_by, repelled_by_met
from whateverothers.settling import settlement_of


def reasons(board, orders):
    """The tuple of what tells of each piece why it is settled so."""
    clash = Clash(board, orders)
    settlement = settlement_of(clash)
    return tuple([_reason(clash, settlement, place) for place in range(len(orders))])


def _reason(clash, settlement, place):
    word = clash.orders[place][0]
    if word == "stay":
        return _reason_of_stay(clash, settlement, place)
    if word == "back":
        return _reason_of_back(clash, settlement, place)
    if settlement[place]:
        return _reason_of_winning(clash, settlement, place)
    return _reason_of_losing(clash, settlement, place)


def _reason_of_stay(clash, settlement, place):
    pusher = clash.winner_into(settlement, clash.fields[place])
    if pusher is not None:
        return ("pushed", pusher)
    return ("stays",)


def _reason_of_back(clash, settlement, place):
    if not clash.is_fitting(place):
        return ("unfit",)
    cutter = first_cutter(clash, place)
    if cutter is not None:
        return ("cut", cutter)
    pusher = clash.winner_into(settlement, clash.fields[place])
    if pusher is not None:
        return ("lost", pusher)
    return ("stands",)


def _reason_of_winning(clash, settlement, place):
    met = clash.met_by(place)
    if met is None:
        return ("free",)
    if barrier_to(clash, settlement, place) is None:
        return ("follows", met)
    return ("beats", met)


def _reason_of_losing(clash, settlement, place):
    barrier = barrier_to(clash, settlement, place)
    thrust = clash.thrust_of(settlement, place, barrier)
    if barrier is not None:
        if not clash.is_foreign(place, barrier):
            return ("own", barrier)
        if holding_by(clash, settlement, place, barrier) >= thrust:
            return ("met" if clash.goes_against(barrier, place) else "held", barrier)
    repelled = repelled_by_met(clash, settlement, place)
    return ("rival", first_rival(clash, settlement, place, thrust, repelled))
