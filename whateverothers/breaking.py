"""Papers: covers that show that something is sure, or orders of the others that break it."""
from whateverothers.bars import bars_of, pairs_of
from whateverothers.clashes import Clash
from whateverothers.covers import least_cover
from whateverothers.grounds import Ground
from whateverothers.kinds import is_integer, is_tuple_of
from whateverothers.matching import matched
from whateverothers.ordering import orders_error
from whateverothers.settling import settlement_of
from whateverothers.sound import is_going
from whateverothers.surety import bars_in_way, chain_of, harm_of, is_withstood


def paper(board, own, place):
    """Any paper of the own piece with this place."""
    ground = Ground(board)
    for link in chain_of(ground, own, place):
        for bar in bars_of(ground, own, link):
            if not is_withstood(own, place, bar, harm_of(ground, bar)):
                return ("broken", _orders_that_break(ground, own, link, bar))
    return ("sure", tuple([least_cover(bar[3], bar[4], pairs_of(ground, bar))
                           for bar in bars_in_way(ground, own, place)]))


def paper_error(board, own, place, value):
    """None if value is a paper of the own piece with this place, otherwise what is wrong with it first."""
    if not is_tuple_of(value, 2):
        return "form"
    word, told = value
    if word == "broken":
        return _breaking_error(board, own, place, told)
    ground = Ground(board)
    in_way = bars_in_way(ground, own, place)
    if word != "sure" or not is_tuple_of(told, len(in_way)):
        return "form"
    for spot, bar in enumerate(in_way):
        if not _is_right_cover(ground, own, place, bar, told[spot]):
            return ("cover", spot)
    return None


def _orders_that_break(ground, own, link, bar):
    """Orders by which bar, of the piece with the place link, does all the harm that it can."""
    kind, main, helpers, cutters, backs = bar
    main_field = ground.fields[main]
    aim = ground.fields[link] if kind in ("meeter", "pusher") else own[link][1]
    orders = [("stay",) if order is None else order for order in own]
    if kind != "holder":
        orders[main] = ("go", aim)
    for helper in helpers:
        orders[helper] = ("back", main_field, aim)
    for cutter, back in matched(cutters, backs, pairs_of(ground, bar)):
        orders[cutter] = ("go", ground.fields[back])
    return tuple(orders)


def _is_right_cover(ground, own, place, bar, value):
    """Whether value is a cover which shows that the backs of bar withstand it."""
    if not is_tuple_of(value, 2):
        return False
    pieces, backs = value
    if not _is_part_of(bar[3], pieces) or not _is_part_of(bar[4], backs):
        return False
    if not all([cutter in pieces or back in backs for cutter, back in pairs_of(ground, bar)]):
        return False
    return is_withstood(own, place, bar, len(bar[2]) + len(pieces) + len(backs))


def _is_part_of(items, value):
    """Whether value is an ascending tuple of some of items, which ascend, too."""
    if not isinstance(value, tuple) or not all([is_integer(item) for item in value]):
        return False
    return value == tuple([item for item in items if item in value])


def _breaking_error(board, own, place, orders):
    """None if orders keep own and break what is ordered to the piece with this place, otherwise what is wrong."""
    if orders_error(board, orders) is not None or not _keep(own, orders):
        return "orders"
    clash = Clash(board, orders)
    settlement = settlement_of(clash)
    if is_going(own, place):
        holds = settlement[place]
    else:
        holds = clash.winner_into(settlement, clash.fields[place]) is None
    return "holds" if holds else None


def _keep(own, orders):
    """Whether each own piece has its own order."""
    return all([item is None or item == order for item, order in zip(own, orders)])
