"""Ends of a round: who is pushed out, where to they can withdraw, and which pieces there are behind it."""
from whateverothers.charts import near
from whateverothers.clashes import Clash
from whateverothers.errors import Unfit
from whateverothers.kinds import is_integer, is_tuple_of
from whateverothers.settling import settlement_of


def pushed_out(board, orders):
    """The ascending tuple of the pairs of the place of a piece that is pushed out and its pusher's field."""
    clash = Clash(board, orders)
    return _pushed_out(clash, settlement_of(clash))


def fought_over(board, orders):
    """The ascending tuple of the fields to which two pieces or more have the order to go, and none of them wins."""
    clash = Clash(board, orders)
    return _fought_over(clash, settlement_of(clash))


def exits(board, orders):
    """For each piece that is pushed out the ascending tuple of the fields to which it can withdraw."""
    clash = Clash(board, orders)
    return _exits(board, clash, settlement_of(clash))


def behind(board, orders, outs):
    """The pieces that there are behind the round; raises Unfit if outs do not tell where to pieces withdraw."""
    clash = Clash(board, orders)
    settlement = settlement_of(clash)
    if not _are_outs(_exits(board, clash, settlement), outs):
        raise Unfit()
    pushed = [place for place, _ in _pushed_out(clash, settlement)]
    withdrawn = [(out, clash.players[place]) for place, out in zip(pushed, outs)
                 if out is not None and outs.count(out) == 1]
    return tuple(sorted(_pieces_left(clash, settlement) + withdrawn))


def left_behind(board, orders):
    """The pieces behind the round if all that are pushed out are gone."""
    clash = Clash(board, orders)
    return tuple(sorted(_pieces_left(clash, settlement_of(clash))))


def is_out(fields, value):
    """Whether value is None or one of these fields, which are the exits of a piece."""
    # Python takes True for equal to 1, so a bool has to be told apart ahead of looking it up.
    return value is None or (is_integer(value) and value in fields)


def _pushed_out(clash, settlement):
    pushers = [clash.winner_into(settlement, field) for field in clash.fields]
    return tuple([(place, clash.fields[pusher]) for place, pusher in enumerate(pushers)
                  if pusher is not None and not _has_left(clash, settlement, place)])


def _fought_over(clash, settlement):
    return tuple([field for field in clash.fields_gone_to()
                  if len(clash.goers_to(field)) > 1 and clash.winner_into(settlement, field) is None])


def _exits(board, clash, settlement):
    barred = [field for field, _ in _pieces_left(clash, settlement)]
    barred.extend(_fought_over(clash, settlement))
    return tuple([_exits_of(board, clash.fields[place], [pusher_field, *barred])
                  for place, pusher_field in _pushed_out(clash, settlement)])


def _exits_of(board, field, barred):
    return tuple([other for other in near(board[0], field) if other not in barred])


def _pieces_left(clash, settlement):
    """The pieces behind the round, but for those that are pushed out."""
    pushed = [place for place, _ in _pushed_out(clash, settlement)]
    return [(_field_behind(clash, settlement, place), player) for place, player in enumerate(clash.players)
            if place not in pushed]


def _field_behind(clash, settlement, place):
    if _has_left(clash, settlement, place):
        return clash.orders[place][1]
    return clash.fields[place]


def _has_left(clash, settlement, place):
    """Whether the go of this piece wins."""
    return clash.is_going(place) and settlement[place]


def _are_outs(exits_told, value):
    """Whether value has for each piece that is pushed out, in order, None or one of its exits."""
    if not is_tuple_of(value, len(exits_told)):
        return False
    return all([is_out(fields, item) for item, fields in zip(value, exits_told)])
