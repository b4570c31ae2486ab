"""The examples of the document, as they are written there."""
import doctest
import pathlib
import unittest

from tests.support import run_examples

CHARTS = """
    >>> from whateverothers.charts import chart_error, near
    >>> wheel = (5, ((0, 1), (0, 3), (0, 4), (1, 2), (1, 4), (2, 3), (2, 4), (3, 4)), (0, 2))
    >>> [chart_error(value) for value in (wheel, (1, (), ()), (24, ((0, 23),), (0, 23)), (5, [], ()), (0, (), ()), (25, (), ()), (True, (), ()), None)]
    [None, None, None, 'form', 'many', 'many', 'many', 'form']
    >>> [chart_error((3, roads, centres)) for roads, centres in ((((0, 1), (0, 1)), ()), (((1, 0),), ()), (((0, 3),), (3,)), (((0, 2), (0, 1)), ()), ((), (1, 0)), ((), (2, True)))]
    [('road', 1), ('road', 0), ('road', 0), ('road', 1), ('centre', 1), ('centre', 1)]
    >>> near(wheel, 4), near(wheel, 1), near((1, (), ()), 0)
    ((0, 1, 2, 3), (0, 2, 4), ())
"""

CHART_TEXTS = """
    >>> wheel = (5, ((0, 1), (0, 3), (0, 4), (1, 2), (1, 4), (2, 3), (2, 4), (3, 4)), (0, 2))
    >>> from whateverothers.charttexts import chart_text, read_chart
    >>> chart_text(wheel), chart_text((1, (), ()))
    ('5: 0-1 0-3 0-4 1-2 1-4 2-3 2-4 3-4; 0 2', '1:;')
    >>> read_chart("3: 0-2; 1"), read_chart(chart_text(wheel)) == wheel
    ((3, ((0, 2),), (1,)), True)
    >>> read_chart("3: 2-0;")
    raises BadText()
    >>> read_chart("3: 0-2 ;")
    raises BadText()
    >>> read_chart("03:;")
    raises BadText()
"""

BOARDS = """
    >>> from whateverothers.boards import board_error
    >>> from whateverothers.ordering import orders_error, orders_of
    >>> wheel = (5, ((0, 1), (0, 3), (0, 4), (1, 2), (1, 4), (2, 3), (2, 4), (3, 4)), (0, 2))
    >>> three, four = (wheel, ((0, 0), (1, 1), (4, 0))), (wheel, ((0, 0), (1, 1), (3, 1), (4, 0)))
    >>> [board_error(value) for value in (three, four, (wheel, ()), wheel, (wheel, [(0, 0)]), ((0, (), ()), ()), (wheel, ((1, 0), (0, 0))), (wheel, ((0, 6),)), (wheel, ((5, 0),)))]
    [None, None, None, 'form', 'pieces', ('chart', 'many'), ('piece', 1), ('piece', 0), ('piece', 0)]
    >>> orders_of(three, 0)
    (('stay',), ('go', 1), ('go', 3), ('go', 4), ('back', 1, 1), ('back', 1, 4), ('back', 4, 1), ('back', 4, 3), ('back', 4, 4))
    >>> [orders_error(three, value) for value in ((("go", 1), ("stay",), ("back", 0, 1)), (("stay",),) * 3, (("stay",),) * 2, (("go", 2), ("stay",), ("stay",)), (("stay",), ("back", 0, 3), ("stay",)), (("stay",), ("stay",), ("back", 0, 4)))]
    [None, None, 'form', ('order', 0), ('order', 1), ('order', 2)]
"""

BOARD_TEXTS = """
    >>> wheel = (5, ((0, 1), (0, 3), (0, 4), (1, 2), (1, 4), (2, 3), (2, 4), (3, 4)), (0, 2))
    >>> three, four = (wheel, ((0, 0), (1, 1), (4, 0))), (wheel, ((0, 0), (1, 1), (3, 1), (4, 0)))
    >>> from whateverothers.boardtexts import orders_text, pieces_text, read_orders, read_pieces
    >>> pieces_text(four[1]), pieces_text(()), read_pieces(wheel, "0:a 4:f"), read_pieces(wheel, "")
    ('0:a 1:b 3:b 4:a', '', ((0, 0), (4, 5)), ())
    >>> orders_text(three, (("go", 1), ("stay",), ("back", 0, 1))), orders_text((wheel, ()), ())
    ('0 go 1; 1 stay; 4 back 0 1', '')
    >>> read_orders(three, "0 stay; 1 go 2; 4 back 1 2")
    (('stay',), ('go', 2), ('back', 1, 2))
    >>> read_orders(three, "1 go 2; 0 stay; 4 stay")
    raises BadText()
    >>> read_pieces(wheel, "0:a 0:b")
    raises BadText()
"""

RULES = """
    >>> from whateverothers.rules import fits, settlement_error
    >>> wheel = (5, ((0, 1), (0, 3), (0, 4), (1, 2), (1, 4), (2, 3), (2, 4), (3, 4)), (0, 2))
    >>> three, four = (wheel, ((0, 0), (1, 1), (4, 0))), (wheel, ((0, 0), (1, 1), (3, 1), (4, 0)))
    >>> push, back, cut = (("go", 1), ("stay",), ("back", 0, 1)), (("go", 1), ("go", 4), ("back", 0, 1)), (("go", 1), ("stay",), ("go", 4), ("back", 0, 1))
    >>> fits(three, push, 2), fits(three, (("stay",), ("stay",), ("back", 0, 1)), 2), fits(three, (("stay",), ("go", 4), ("back", 0, 0)), 2)
    (True, False, True)
    >>> [settlement_error(three, push, value) for value in ((True, True, True), (False, True, True), (True, True, False), (True, True), [True, True, True], (1, 1, 1))]
    [None, ('order', 0), ('order', 0), 'form', 'form', 'form']
    >>> [settlement_error(three, back, value) for value in ((True, False, True), (True, True, True), (False, False, False))]
    [None, ('order', 1), ('order', 2)]
    >>> [settlement_error(four, cut, value) for value in ((False, True, False, False), (True, True, False, True))]
    [None, ('order', 3)]
    >>> ring = (("go", 1), ("go", 4), ("go", 0))
    >>> [settlement_error(three, ring, value) for value in ((True, True, True), (False, False, False), (True, False, False))]
    [None, None, ('order', 0)]
"""

SETTLING = """
    >>> from whateverothers.forces import force, standing
    >>> wheel = (5, ((0, 1), (0, 3), (0, 4), (1, 2), (1, 4), (2, 3), (2, 4), (3, 4)), (0, 2))
    >>> three, four = (wheel, ((0, 0), (1, 1), (4, 0))), (wheel, ((0, 0), (1, 1), (3, 1), (4, 0)))
    >>> back, cut = (("go", 1), ("go", 4), ("back", 0, 1)), (("go", 1), ("stay",), ("go", 4), ("back", 0, 1))
    >>> lost, again = (wheel, ((0, 0), (1, 1), (2, 1), (4, 0))), (("go", 1), ("go", 4), ("back", 1, 4), ("back", 0, 1))
    >>> standing(three, back), standing(four, cut), standing(lost, again)
    ((2,), (), (2,))
    >>> [force(three, back, place) for place in (0, 1, 2)], [force(four, cut, place) for place in (0, 1, 2, 3)], [force(lost, again, place) for place in (0, 1, 2, 3)]
    ([2, 1, 1], [1, 1, 1, 1], [1, 2, 1, 1])
    >>> from whateverothers.settling import loose_rings, settled, settlements
    >>> ring = (("go", 1), ("go", 4), ("go", 0))
    >>> loose_rings(three, ring), settled(three, ring), settlements(three, ring)
    (((0, 1, 2),), (True, True, True), ((False, False, False), (True, True, True)))
    >>> loose_rings(three, back), settled(three, back), settlements(three, back)
    ((), (True, False, True), ((True, False, True),))
    >>> settled(four, cut), settled(lost, again)
    ((False, True, False, False), (True, True, True, False))
    >>> shoved = (wheel, ((0, 0), (1, 1), (2, 0), (4, 1)))
    >>> settled(shoved, (("go", 1), ("go", 2), ("go", 1), ("back", 1, 2)))
    (True, True, False, True)
    >>> barred = (wheel, ((0, 0), (1, 1), (3, 1), (4, 0)))
    >>> loose_rings(barred, (("go", 1), ("go", 4), ("go", 4), ("go", 0))), settled(barred, (("go", 1), ("go", 4), ("go", 4), ("go", 0)))
    ((), (False, False, False, False))
    >>> from whateverothers.reasons import reasons
    >>> reasons(three, (("go", 1), ("stay",), ("back", 0, 1))), reasons(three, back)
    ((('beats', 1), ('pushed', 0), ('stands',)), (('beats', 1), ('held', 2), ('stands',)))
    >>> reasons(four, cut), reasons(lost, again)
    ((('held', 1), ('stays',), ('held', 3), ('cut', 2)), (('follows', 1), ('beats', 3), ('stands',), ('lost', 1)))
    >>> reasons(three, ring), reasons(shoved, (("go", 1), ("go", 2), ("go", 1), ("back", 1, 2)))
    ((('follows', 1), ('follows', 2), ('follows', 0)), (('follows', 1), ('beats', 2), ('met', 1), ('stands',)))
    >>> reasons((wheel, ((0, 0), (2, 1))), (("go", 1), ("go", 1))), reasons((wheel, ((0, 0), (1, 0))), (("go", 1), ("stay",)))
    ((('rival', 1), ('rival', 0)), (('own', 1), ('stays',)))
    >>> reasons((wheel, ((0, 0), (1, 1))), (("go", 4), ("back", 0, 0)))
    (('free',), ('unfit',))
"""

ENDS = """
    >>> from whateverothers.ends import behind, exits, fought_over, pushed_out
    >>> wheel = (5, ((0, 1), (0, 3), (0, 4), (1, 2), (1, 4), (2, 3), (2, 4), (3, 4)), (0, 2))
    >>> three, back = (wheel, ((0, 0), (1, 1), (4, 0))), (("go", 1), ("go", 4), ("back", 0, 1))
    >>> pushed_out(three, back), fought_over(three, back), exits(three, back)
    (((1, 0),), (), ((2,),))
    >>> behind(three, back, (2,)), behind(three, back, (None,))
    (((1, 0), (2, 1), (4, 0)), ((1, 0), (4, 0)))
    >>> behind(three, back, (0,))
    raises Unfit()
    >>> behind(three, back, ())
    raises Unfit()
    >>> lost, again = (wheel, ((0, 0), (1, 1), (2, 1), (4, 0))), (("go", 1), ("go", 4), ("back", 1, 4), ("back", 0, 1))
    >>> pushed_out(lost, again), exits(lost, again), behind(lost, again, (3,))
    (((3, 1),), ((0, 3),), ((1, 0), (2, 1), (3, 0), (4, 1)))
    >>> crowd = (7, ((0, 1), (0, 4), (0, 5), (2, 3), (2, 4), (2, 6)), ())
    >>> both = (crowd, ((0, 0), (1, 1), (2, 0), (3, 1), (5, 1), (6, 1)))
    >>> shove = (("stay",), ("go", 0), ("stay",), ("go", 2), ("back", 1, 0), ("back", 3, 2))
    >>> pushed_out(both, shove), exits(both, shove)
    (((0, 1), (2, 3)), ((4,), (4,)))
    >>> behind(both, shove, (4, 4)), behind(both, shove, (4, None))
    (((0, 1), (2, 1), (5, 1), (6, 1)), ((0, 1), (2, 1), (4, 0), (5, 1), (6, 1)))
    >>> pair = (wheel, ((0, 0), (2, 1)))
    >>> fought_over(pair, (("go", 1), ("go", 1))), behind(pair, (("go", 1), ("go", 1)), ())
    ((1,), ((0, 0), (2, 1)))
"""

GAMES = r"""
    >>> from whateverothers.games import Game
    >>> wheel = (5, ((0, 1), (0, 3), (0, 4), (1, 2), (1, 4), (2, 3), (2, 4), (3, 4)), (0, 2))
    >>> three, push = (wheel, ((0, 0), (1, 1), (4, 0))), (("go", 1), ("stay",), ("back", 0, 1))
    >>> g = Game(wheel, three[1])
    >>> g.phase, g.year, g.season, g.holders, g.winner, [g.wanted(player) for player in (0, 1, 5)], g.log
    ('orders', 0, 0, (0, None), None, [-1, -1, 0], ())
    >>> g.go_on((("go", 1), ("stay",), ("go", 2), ("stay",)))
    raises BadOrders('form')
    >>> g.withdraw(())
    raises NotNow('orders')
    >>> g.go_on(push), g.board == three, g.orders == push
    ('outs', True, True)
    >>> g.withdraw((4,))
    raises Unfit()
    >>> g.withdraw((2,)), g.board[1], g.season, g.orders
    ('orders', ((1, 0), (2, 1), (4, 0)), 1, None)
    >>> g.go_on((("go", 0), ("stay",), ("stay",))), g.board[1], g.holders, g.winner, [g.wanted(player) for player in (0, 1)]
    ('builds', ((0, 0), (2, 1), (4, 0)), (0, 1), None, [-1, 0])
    >>> g.build(())
    raises Unfit()
    >>> g.build(((4, 0),)), g.board[1], g.year, g.season, len(g.log), g.log[3]
    ('orders', ((0, 0), (2, 1)), 1, 0, 4, ('build', ((4, 0),)))
    >>> [g.undo() for turn in range(4)], g.board == three, g.holders, g.log
    (['builds', 'orders', 'outs', 'orders'], True, (0, None), ())
    >>> g.undo()
    raises NothingToUndo()
    >>> line = (3, ((0, 1), (1, 2)), (0, 2))
    >>> w = Game(line, ((0, 3),))
    >>> w.go_on((("go", 1),)), w.go_on((("go", 2),)), w.holders, w.winner, w.year
    ('orders', 'ended', (3, 3), 3, 0)
    >>> w.go_on((("stay",),))
    raises NotNow('ended')
    >>> b = Game(line, ((0, 3), (1, 5)))
    >>> b.go_on((("stay",), ("stay",))), b.go_on((("stay",), ("go", 2))), b.holders, [b.wanted(player) for player in (3, 5)], b.year
    ('orders', 'orders', (3, 5), [0, 0], 1)
    >>> from whateverothers.gamelogs import game_behind, game_text, read_game
    >>> log = (("go_on", push), ("withdraw", (2,)), ("go_on", (("go", 0), ("stay",), ("stay",))))
    >>> h = game_behind(wheel, three[1], log)
    >>> h.phase, h.holders, h.log == log
    ('builds', (0, 1), True)
    >>> game_text(h)
    'orders 0 go 1; 1 stay; 4 back 0 1\nouts 2\norders 1 go 0; 2 stay; 4 stay\n'
    >>> read_game(wheel, three[1], game_text(h)).log == log, read_game(wheel, three[1], "").log, game_text(Game(line, ()))
    (True, (), '')
    >>> game_behind(wheel, three[1], log[:1] + log[2:])
    raises BadLog(1)
    >>> game_behind(wheel, three[1], [])
    raises BadLog(0)
    >>> read_game(wheel, three[1], "orders 0 go 1; 1 stay; 4 back 0 1\nouts 4\n")
    raises BadText()
"""

BARS = """
    >>> from whateverothers.sound import sound_error
    >>> wheel = (5, ((0, 1), (0, 3), (0, 4), (1, 2), (1, 4), (2, 3), (2, 4), (3, 4)), (0, 2))
    >>> three, four = (wheel, ((0, 0), (1, 1), (4, 0))), (wheel, ((0, 0), (1, 1), (3, 1), (4, 0)))
    >>> [sound_error(three, 0, value) for value in ((("go", 1), None, ("back", 0, 1)), (("go", 4), None, ("go", 3)), (("go", 1), None), (("go", 1), ("stay",), ("stay",)), (None, None, ("stay",)))]
    [None, None, 'form', ('order', 1), ('order', 0)]
    >>> [sound_error(three, 0, value) for value in ((("back", 1, 1), None, ("stay",)), (("go", 3), None, ("go", 3)), (("go", 4), None, ("stay",)), (("go", 4), None, ("go", 0)))]
    [('foreign', 0), ('same', 2), ('stays', 0), ('meet', 0)]
    >>> sound_error(three, 5, (None, None, None)), sound_error(three, 1, (None, ("go", 0), None))
    (None, None)
    >>> from whateverothers.bars import bars, cut_pairs
    >>> push, hold = (("go", 1), None, None, ("back", 0, 1)), (("stay",), None, None, ("back", 0, 0))
    >>> bars(four, push, 0), bars(four, push, 3)
    ((('holder', 1, (), (2,), (3,)), ('meeter', 1, (2,), (), (3,))), (('pusher', 1, (2,), (), ()), ('pusher', 2, (), (), ())))
    >>> bars(four, hold, 0)
    (('pusher', 1, (2,), (), (3,)), ('pusher', 2, (1,), (), (3,)))
    >>> line, row = ((4, ((0, 1), (1, 2), (2, 3)), ()), ((0, 0), (1, 0), (3, 1))), (("go", 1), ("go", 2), None)
    >>> bars(line, row, 0), bars(line, row, 1)
    ((), (('rival', 2, (), (), ()),))
    >>> from whateverothers.matching import matched
    >>> from whateverothers.surety import chain, harm, shut, sure
    >>> yard = (6, ((0, 1), (1, 2), (1, 3), (2, 4), (2, 5), (3, 4)), ())
    >>> base, wide = (yard, ((0, 0), (1, 1), (2, 0), (3, 0), (4, 1))), (yard, ((0, 0), (1, 1), (2, 0), (3, 0), (4, 1), (5, 2)))
    >>> both = (("go", 1), None, ("back", 0, 1), ("back", 0, 1), None)
    >>> bars(base, both, 0)
    (('holder', 1, (), (4,), (2, 3)), ('meeter', 1, (), (4,), (2, 3)))
    >>> cut_pairs(base, bars(base, both, 0)[0]), cut_pairs(wide, bars(wide, both + (None,), 0)[0])
    (((4, 2), (4, 3)), ((4, 2), (4, 3), (5, 2)))
    >>> matched((4, 5), (2, 3), ((4, 2), (4, 3), (5, 2))), matched((), (2, 3), ())
    (((4, 3), (5, 2)), ())
    >>> harm(base, bars(base, both, 0)[0]), harm(wide, bars(wide, both + (None,), 0)[0]), [harm(four, bar) for bar in bars(four, push, 0)]
    (1, 2, [1, 1])
    >>> [sure(base, both, 0), sure(wide, both + (None,), 0), sure(four, push, 0), sure(four, push, 3), sure(four, hold, 0)]
    [True, False, False, False, True]
    >>> chain(line, row, 0), sure(line, row, 0), sure(line, row, 1)
    ((0, 1), False, False)
    >>> ring = ((wheel, ((0, 0), (1, 0), (4, 0))), (("go", 1), ("go", 4), ("go", 0)))
    >>> chain(ring[0], ring[1], 1), sure(ring[0], ring[1], 1)
    ((1, 2, 0), True)
    >>> [shut(three, (("stay",), None, item), 2) for item in (("go", 2), ("stay",))], shut(three, (("stay",), None, ("stay",)), 3)
    ([True, False], True)
"""

PAPERS = """
    >>> from whateverothers.covers import least_cover
    >>> least_cover((4,), (2, 3), ((4, 2), (4, 3))), least_cover((4, 5), (2,), ((4, 2), (5, 2))), least_cover((4, 5), (2, 3), ())
    (((4,), ()), ((), (2,)), ((), ()))
    >>> least_cover((4, 5), (2, 3), ((4, 2), (4, 3), (5, 2))) in (((4, 5), ()), ((), (2, 3)), ((4,), (2,)))
    True
    >>> from whateverothers.breaking import paper, paper_error
    >>> wheel = (5, ((0, 1), (0, 3), (0, 4), (1, 2), (1, 4), (2, 3), (2, 4), (3, 4)), (0, 2))
    >>> four, push = (wheel, ((0, 0), (1, 1), (3, 1), (4, 0))), (("go", 1), None, None, ("back", 0, 1))
    >>> yard = (6, ((0, 1), (1, 2), (1, 3), (2, 4), (2, 5), (3, 4)), ())
    >>> base, both = (yard, ((0, 0), (1, 1), (2, 0), (3, 0), (4, 1))), (("go", 1), None, ("back", 0, 1), ("back", 0, 1), None)
    >>> paper(base, both, 0)
    ('sure', (((4,), ()), ((4,), ())))
    >>> paper(four, push, 0)[0], paper_error(four, push, 0, paper(four, push, 0))
    ('broken', None)
    >>> [paper_error(four, push, 0, ("broken", orders)) for orders in ((("go", 1), ("stay",), ("go", 4), ("back", 0, 1)), (("go", 1), ("go", 0), ("back", 1, 0), ("back", 0, 1)))]
    [None, None]
    >>> [paper_error(four, push, 0, ("broken", orders)) for orders in ((("go", 1), ("stay",), ("stay",), ("back", 0, 1)), (("stay",), ("stay",), ("go", 4), ("back", 0, 1)), (("go", 1), None, None, ("back", 0, 1)), None)]
    ['holds', 'orders', 'orders', 'orders']
    >>> [paper_error(base, both, 0, value) for value in (("sure", (((4,), ()),)), ("sure", [((4,), ()), ((4,), ())]), ("maybe", ()), ["sure", ()], None)]
    ['form', 'form', 'form', 'form', 'form']
    >>> [paper_error(base, both, 0, ("sure", (((4,), ()), item))) for item in (((), ()), ((), (2, 3)), ([4], ()), ((1,), ()), ((4,),), None)]
    [('cover', 1), ('cover', 1), ('cover', 1), ('cover', 1), ('cover', 1), ('cover', 1)]
"""

HELPING = """
    >>> from whateverothers.helping import least_backs
    >>> wheel = (5, ((0, 1), (0, 3), (0, 4), (1, 2), (1, 4), (2, 3), (2, 4), (3, 4)), (0, 2))
    >>> three, four = (wheel, ((0, 0), (1, 1), (4, 0))), (wheel, ((0, 0), (1, 1), (3, 1), (4, 0)))
    >>> least_backs(three, (("go", 1), None, ("stay",)), 0), least_backs(three, (("go", 1), None, ("back", 0, 1)), 0)
    ((('go', 1), None, ('back', 0, 1)), (('go', 1), None, ('back', 0, 1)))
    >>> least_backs(four, (("go", 1), None, None, ("stay",)), 0), least_backs(four, (("go", 1), None, None, ("back", 0, 1)), 0)
    (None, None)
    >>> least_backs(four, (("stay",), None, None, ("stay",)), 3), least_backs(three, (("stay",), None, ("stay",)), 2)
    ((('back', 4, 4), None, None, ('stay',)), (('stay',), None, ('stay',)))
"""

HIDDEN = """
    >>> from whateverothers.hidden import known, ways
    >>> wheel = (5, ((0, 1), (0, 3), (0, 4), (1, 2), (1, 4), (2, 3), (2, 4), (3, 4)), (0, 2))
    >>> three, push = (wheel, ((0, 0), (1, 1), (4, 0))), (("go", 1), None, ("back", 0, 1))
    >>> [orders[1] for orders in ways(three, push, ((1, 0), (4, 0)))]
    [('stay',), ('go', 0), ('go', 4), ('back', 0, 0), ('back', 0, 4), ('back', 4, 0), ('back', 4, 2), ('back', 4, 4)]
    >>> ways(three, push, ((1, 0), (2, 1), (4, 0))), ways(three, push, ((0, 0), (1, 1), (4, 0)))
    (((('go', 1), ('go', 2), ('back', 0, 1)),), ())
    >>> known(three, push, ((1, 0), (4, 0))), known(three, push, ((1, 0), (2, 1), (4, 0)))
    ((('go', 1), None, ('back', 0, 1)), (('go', 1), ('go', 2), ('back', 0, 1)))
    >>> ways(three, (None, ("stay",), None), ((1, 0), (4, 0)))
    ((('go', 1), ('stay',), ('back', 0, 1)),)
    >>> len(ways(three, (("go", 1), None, None), ((0, 0), (1, 1), (4, 0))))
    64
    >>> known(three, push, ((0, 0), (1, 1), (4, 0)))
    raises Unfit()
    >>> ways(three, (("go", 1), ("stay",), ("stay",)), ((0, 0), (1, 1), (4, 0))) == ((("go", 1), ("stay",), ("stay",)),)
    True
"""

PLANS = """
    >>> from whateverothers.plans import plan, sure_of
    >>> wheel = (5, ((0, 1), (0, 3), (0, 4), (1, 2), (1, 4), (2, 3), (2, 4), (3, 4)), (0, 2))
    >>> three, four = (wheel, ((0, 0), (1, 1), (4, 0))), (wheel, ((0, 0), (1, 1), (3, 1), (4, 0)))
    >>> sure_of(three, (("go", 1), None, ("back", 0, 1)), (("take", 1), ("hold", 4), ("hold", 0), ("take", 4)))
    (True, True, False, False)
    >>> plan(three, 0, (("take", 1),)), plan(three, 0, (("take", 1), ("hold", 4)))
    ((('go', 1), None, ('back', 0, 1)), (('go', 1), None, ('back', 0, 1)))
    >>> plan(four, 0, (("hold", 4),)), plan(four, 0, (("take", 1),)), plan(three, 0, (("take", 0),))
    ((('back', 4, 4), None, None, ('stay',)), None, None)
    >>> crowd = (wheel, tuple([(field, 0) for field in range(5)]))
    >>> plan(crowd, 0, (("hold", 0),))
    raises TooMany(20000)
"""

SHELLS = r"""
    >>> from whateverothers.shells import Shell
    >>> s = Shell()
    >>> s.say("show"), s.say("start 5: 0-1 0-3 0-4 1-2 1-4 2-3 2-4 3-4; 0 2 / 0:a 1:b 4:a"), s.say("show")
    ('no game', 'orders', 'year 0 round 0 orders; 0:a 1:b 4:a; 0:a 2:-')
    >>> s.say("settle 0 go 1; 1 stay; 4 back 0 1"), s.say("settle 0 go 1; 1 go 4; 4 stay"), s.say("rings 0 go 1; 1 go 4; 4 go 0")
    ('0+ 1+ 4+', '0- 1- 4+', '0>1>4')
    >>> s.say("sure a 0 go 1; 4 back 0 1"), s.say("paper a 0 / 0 go 1; 4 back 0 1"), s.say("sure a 0 go 1; 1 stay")
    ('0+ 4+', 'sure', 'error BadText')
    >>> s.say("orders 0 go 1; 1 stay; 4 back 0 1"), s.say("show"), s.say("undo")
    ('outs 1>2', 'year 0 round 0 outs; 0:a 1:b 4:a; 0:a 2:-', 'orders')
    >>> s.say("orders 0 go 1; 1 stay; 4 back 0 1"), s.say("orders 0 stay"), s.say("outs 4"), s.say("outs 2"), s.say("text")
    ('outs 1>2', 'error NotNow', 'error Unfit', 'orders', 'orders 0 go 1; 1 stay; 4 back 0 1\nouts 2')
    >>> s.say("wanted a"), s.say("wanted g"), s.say("settle"), s.say("start 1:;/"), s.say("start 1:; / "), s.say("show"), s.say("settle "), s.say("text")
    ('-1', 'what', 'what', 'what', 'orders', 'year 0 round 0 orders; none; none', 'none', 'none')
"""

SEATS = """
    >>> from whateverothers.seats import Table
    >>> wheel = (5, ((0, 1), (0, 3), (0, 4), (1, 2), (1, 4), (2, 3), (2, 4), (3, 4)), (0, 2))
    >>> three = (wheel, ((0, 0), (1, 1), (4, 0)))
    >>> t = Table(wheel, three[1])
    >>> t.hand_in(0, ((0, ("go", 1)), (4, ("back", 0, 1)))), t.hand_in(1, ((1, ("go", 2)),)), t.hand_in(1, ())
    (None, None, None)
    >>> t.view(1)[2:] == ("orders", three, (0, None), None, (), (0, 1)), t.view(0)[6], t.view(5)[6]
    (True, ((0, ('go', 1)), (4, ('back', 0, 1))), None)
    >>> t.hand_in(1, ((0, ("stay",)),))
    raises Unfit()
    >>> t.close(), t.journal, t.view(1)[6:]
    ('outs', ('orders 0 go 1; 1 stay; 4 back 0 1',), (None, ()))
    >>> t.hand_in(1, ((1, 2),)), t.close(), t.view(0)[3] == (wheel, ((1, 0), (2, 1), (4, 0)))
    (None, 'orders', True)
    >>> t.hand_in(0, ((1, ("go", 0)),)), t.close(), t.view(0)[4], t.close(), t.view(0)[3][1]
    (None, 'builds', (0, 1), 'orders', ((0, 0), (2, 1)))
    >>> t.journal
    ('orders 0 go 1; 1 stay; 4 back 0 1', 'outs 2', 'orders 1 go 0; 2 stay; 4 stay', 'builds 4:a')
    >>> t.take_back(0)
    raises Unfit()
"""


class Examples(unittest.TestCase):
    def test_charts(self):
        run_examples(self, CHARTS)

    def test_chart_texts(self):
        run_examples(self, CHART_TEXTS)

    def test_boards_and_orders(self):
        run_examples(self, BOARDS)

    def test_board_texts(self):
        run_examples(self, BOARD_TEXTS)

    def test_rules(self):
        run_examples(self, RULES)

    def test_forces_settling_and_reasons(self):
        run_examples(self, SETTLING)

    def test_ends(self):
        run_examples(self, ENDS)

    def test_games_and_their_logs(self):
        run_examples(self, GAMES)

    def test_sound_orders_bars_and_what_is_sure(self):
        run_examples(self, BARS)

    def test_covers_and_papers(self):
        run_examples(self, PAPERS)

    def test_fewest_backs(self):
        run_examples(self, HELPING)

    def test_orders_that_were_not_seen(self):
        run_examples(self, HIDDEN)

    def test_plans(self):
        run_examples(self, PLANS)

    def test_shells(self):
        run_examples(self, SHELLS)

    def test_tables(self):
        run_examples(self, SEATS)

    def test_readme(self):
        readme = pathlib.Path(__file__).resolve().parent.parent / "README.md"
        told = doctest.testfile(str(readme), module_relative=False)
        self.assertEqual(0, told.failed)
        self.assertGreater(told.attempted, 0)


if __name__ == "__main__":
    unittest.main()
