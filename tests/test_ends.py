"""Ends of a round [E1], [E2], [E3], [E4]."""
import unittest

from tests.plain import FULL, LINE, THREE, WHEEL, drawn_boards, orders_of_all, renamed
from tests.plainrounds import Round, drawn_pushes, drawn_rings, fields_renamed
from tests.situations import SITUATIONS, told
from tests.support import any_values, call_alike, exchanged, is_plain, raises, returns
from whateverothers.boardtexts import pieces_text, read_pieces
from whateverothers.ends import behind, exits, fought_over, pushed_out
from whateverothers.forces import standing

BACK = (("go", 1), ("go", 4), ("back", 0, 1))
CROWD = (7, ((0, 1), (0, 4), (0, 5), (2, 3), (2, 4), (2, 6)), ())
SHOVES = ((CROWD, ((0, 0), (1, 1), (2, 0), (3, 1), (5, 1), (6, 1))),
          (("stay",), ("go", 0), ("stay",), ("go", 2), ("back", 1, 0), ("back", 3, 2)))
# Three pieces of a, each pushed out, which can all withdraw to 0 alone.
TRIPLE = (10, ((0, 1), (0, 2), (0, 3), (1, 4), (1, 7), (2, 5), (2, 8), (3, 6), (3, 9)), ())
THREE_SHOVES = told(TRIPLE, "1:a 2:a 3:a 4:b 5:b 6:b 7:b 8:b 9:b",
                    "1 stay; 2 stay; 3 stay; 4 go 1; 5 go 2; 6 go 3; 7 back 4 1; 8 back 5 2; 9 back 6 3")

# What is shown, the chart, pieces, orders, who is pushed out, what is fought over, exits, and the pieces behind the
# round if all that are pushed out are gone.
ENDS = (
    ("nobody", WHEEL, "", "", (), (), (), ""),
    ("all stay", WHEEL, "0:a 1:b", "0 stay; 1 stay", (), (), (), "0:a 1:b"),
    ("a go", WHEEL, "0:a 1:b", "0 go 3; 1 stay", (), (), (), "1:b 3:a"),
    ("a go that is held", WHEEL, "0:a 1:b", "0 go 1; 1 stay", (), (), (), "0:a 1:b"),
    ("against each other", WHEEL, "0:a 1:b", "0 go 1; 1 go 0", (), (), (), "0:a 1:b"),
    ("round in a ring", WHEEL, "0:a 1:b 4:c", "0 go 1; 1 go 4; 4 go 0", (), (), (), "0:c 1:a 4:b"),
    ("in a line", WHEEL, "0:a 1:b", "0 go 1; 1 go 2", (), (), (), "1:a 2:b"),
    ("into one field", WHEEL, "0:a 2:b", "0 go 1; 2 go 1", (), (1,), (), "0:a 2:b"),
    ("own ones into one field", WHEEL, "0:a 2:a", "0 go 1; 2 go 1", (), (1,), (), "0:a 2:a"),
    ("into one field, where one wins", WHEEL, "0:a 2:b 4:a", "0 go 1; 2 go 1; 4 back 0 1", (), (), (), "1:a 2:b 4:a"),
    ("into a held field, both", WHEEL, "0:a 1:b 2:c", "0 go 1; 1 stay; 2 go 1", (), (1,), (), "0:a 1:b 2:c"),
    ("into a field, one alone and in vain", WHEEL, "0:a 1:b 4:c", "0 go 1; 1 stay; 4 stay", (), (), (), "0:a 1:b 4:c"),
    ("into two fields", FULL, "0:a 1:b 2:c 3:d 4:e", "0 go 9; 1 go 9; 2 go 7; 3 go 7; 4 go 7", (), (7, 9), (),
     "0:a 1:b 2:c 3:d 4:e"),
    ("pushed out with one exit", WHEEL, "0:a 1:b 4:a", "0 go 1; 1 go 4; 4 back 0 1", ((1, 0),), (), ((2,),), "1:a 4:a"),
    ("pushed out with two exits", WHEEL, "0:a 1:b 2:a", "0 back 2 1; 1 stay; 2 go 1", ((1, 2),), (), ((4,),), "0:a 1:a"),
    ("pushed out with no exit", WHEEL, "0:a 1:b 2:a 4:a", "0 go 1; 1 stay; 2 stay; 4 back 0 1", ((1, 0),), (), ((),),
     "1:a 2:a 4:a"),
    ("pushed out, alone with its pusher", (3, ((0, 1), (0, 2), (1, 2)), ()), "0:a 1:b 2:a", "0 go 1; 1 stay; 2 back 0 1",
     ((1, 0),), (), ((),), "1:a 2:a"),
    ("the pusher's field is no exit though it is left", WHEEL, "0:b 1:a 4:a", "0 stay; 1 go 0; 4 back 1 0", ((0, 1),), (),
     ((3,),), "0:a 4:a"),
    ("a field that was just left is an exit", WHEEL, "0:a 1:b 2:c 4:a", "0 go 1; 1 stay; 2 go 3; 4 back 0 1",
     ((1, 0),), (), ((2,),), "1:a 3:c 4:a"),
    ("a field that was just come to is none", WHEEL, "0:a 1:b 3:c 4:a", "0 go 1; 1 stay; 3 go 2; 4 back 0 1",
     ((1, 0),), (), ((),), "1:a 2:c 4:a"),
    ("a field that is fought over is none", (6, tuple(sorted(WHEEL[1] + ((2, 5),))), ()), "0:a 1:b 3:c 4:a 5:b",
     "0 go 1; 1 stay; 3 go 2; 4 back 0 1; 5 go 2", ((1, 0),), (2,), ((),), "1:a 3:c 4:a 5:b"),
    ("a field that the pushed one fought over is none", WHEEL, "0:a 1:b 3:c 4:a", "0 go 1; 1 go 2; 3 go 2; 4 back 0 1",
     ((1, 0),), (2,), ((),), "1:a 3:c 4:a"),
    ("a field for which one wins is none", FULL[:1] + (((0, 1), (0, 4), (1, 2), (1, 3), (1, 4), (2, 3), (2, 5), (3, 5)),) +
     FULL[2:], "0:a 1:b 3:c 4:a 5:c", "0 go 1; 1 go 2; 3 go 2; 4 back 0 1; 5 back 3 2", ((1, 0),), (), ((3,),),
     "1:a 2:c 4:a 5:c"),
    ("a field in which one was pushed out is none", SHOVES[0][0], "0:a 1:b 2:a 3:b 5:b 6:b",
     "0 stay; 1 go 0; 2 stay; 3 go 2; 5 back 1 0; 6 back 3 2", ((0, 1), (2, 3)), (), ((4,), (4,)), "0:b 2:b 5:b 6:b"),
    ("who goes elsewhere in vain is pushed out", FULL[:1] + (((0, 1), (0, 2), (1, 2), (1, 3), (1, 4)), ()),
     "0:a 1:b 2:a 3:c", "0 go 1; 1 go 3; 2 back 0 1; 3 stay", ((1, 0),), (), ((4,),), "1:a 2:a 3:c"),
    ("who comes against it is pushed out", WHEEL, "0:a 1:b 4:a", "0 go 1; 1 go 0; 4 back 0 1", ((1, 0),), (), ((2,),),
     "1:a 4:a"),
    ("who backs is pushed out", WHEEL, "0:a 1:b 2:b 4:a", "0 go 1; 1 go 4; 2 back 1 4; 4 back 0 1", ((3, 1),), (),
     ((0, 3),), "1:a 2:b 4:b"),
    ("one behind another", FULL[:1] + (((0, 1), (0, 2), (1, 3), (1, 4), (3, 4), (3, 5)), ()), "0:a 1:b 2:a 3:c 4:b",
     "0 go 1; 1 go 3; 2 stay; 3 stay; 4 back 1 3", ((3, 1),), (), ((5,),), "1:a 2:a 3:b 4:b"),
    ("an own one is not pushed out", WHEEL, "0:a 1:a 4:a", "0 go 1; 1 stay; 4 back 0 1", (), (), (), "0:a 1:a 4:a"),
    ("nor if it is held up", FULL, "0:a 1:a 2:b 4:a", "0 go 1; 1 go 2; 2 stay; 4 back 0 1", (), (), (),
     "0:a 1:a 2:b 4:a"),
    ("nor with own and foreign backs", FULL, "0:a 1:a 3:b 4:a", "0 go 1; 1 stay; 3 back 0 1; 4 back 0 1", (), (), (),
     "0:a 1:a 3:b 4:a"),
    ("the pushed one goes for the pusher's field, as another one does", FULL[:1] + (((0, 1), (0, 2), (0, 3), (1, 3)), ()),
     "0:a 1:b 2:c 3:a", "0 go 1; 1 go 0; 2 go 0; 3 back 0 1", ((1, 0),), (), ((),), "0:c 1:a 3:a"),
)


class Told(unittest.TestCase):
    def test_ends(self):
        for why, chart, pieces_told, orders_told, pushed, fought, fields, left in ENDS:
            with self.subTest(why):
                board, orders = told(chart, pieces_told, orders_told)
                returns(self, pushed, pushed_out, board=board, orders=orders)
                returns(self, fought, fought_over, board=board, orders=orders)
                returns(self, fields, exits, board=board, orders=orders)
                expected = read_pieces(chart, left)
                returns(self, expected, behind, board=board, orders=orders, outs=(None,) * len(pushed))

    def test_players_called_otherwise(self):
        for why, chart, pieces_told, orders_told, pushed, fought, fields, _ in ENDS:
            board, orders = told(chart, pieces_told, orders_told)
            with self.subTest(why):
                other = renamed(board, (5, 4, 3, 2, 1, 0))
                self.assertEqual((pushed, fought, fields),
                                 (pushed_out(other, orders), fought_over(other, orders), exits(other, orders)))

    def test_nothing_returned_can_change(self):
        for function in (pushed_out, fought_over, exits):
            self.assertTrue(is_plain(function(THREE, BACK)))
        self.assertTrue(is_plain(behind(THREE, BACK, (2,))))


class Behind(unittest.TestCase):
    def told(self, expected, situation, outs):
        board, orders = situation
        returns(self, read_pieces(board[0], expected), behind, board=board, orders=orders, outs=outs)

    def unfit(self, situation, outs):
        board, orders = situation
        raises(self, "Unfit", behind, board=board, orders=orders, outs=outs)

    def test_one_withdraws(self):
        self.told("1:a 2:b 4:a", (THREE, BACK), (2,))
        self.told("1:a 4:a", (THREE, BACK), (None,))

    def test_a_choice_of_exits(self):
        situation = told(WHEEL, "0:a 1:b 2:b 4:a", "0 go 1; 1 go 4; 2 back 1 4; 4 back 0 1")
        self.told("0:a 1:a 2:b 4:b", situation, (0,))
        self.told("1:a 2:b 3:a 4:b", situation, (3,))
        self.told("1:a 2:b 4:b", situation, (None,))
        for field in (1, 2, 4, 5, -1):
            self.unfit(situation, (field,))

    def test_without_exits(self):
        situation = told(WHEEL, "0:a 1:b 2:a 4:a", "0 go 1; 1 stay; 2 stay; 4 back 0 1")
        self.told("1:a 2:a 4:a", situation, (None,))
        for field in range(-1, 6):
            self.unfit(situation, (field,))

    def test_two_that_choose_one_field_are_gone(self):
        self.told("0:b 2:b 5:b 6:b", SHOVES, (4, 4))
        self.told("0:b 2:b 4:a 5:b 6:b", SHOVES, (4, None))
        self.told("0:b 2:b 4:a 5:b 6:b", SHOVES, (None, 4))
        self.told("0:b 2:b 5:b 6:b", SHOVES, (None, None))

    def test_three_that_choose_one_field_are_gone(self):
        self.assertEqual(((0,), (0,), (0,)), exits(*THREE_SHOVES))
        left = "1:b 2:b 3:b 7:b 8:b 9:b"
        for outs in ((0, 0, 0), (0, 0, None), (0, None, 0), (None, 0, 0), (None, None, None)):
            self.told(left, THREE_SHOVES, outs)
        for outs in ((0, None, None), (None, 0, None), (None, None, 0)):
            self.told("0:a " + left, THREE_SHOVES, outs)

    def test_pieces_of_several_players_choose_one_field(self):
        board, orders = SHOVES
        board = (board[0], ((0, 0), (1, 1), (2, 4), (3, 1), (5, 1), (6, 1)))
        self.told("0:b 2:b 5:b 6:b", (board, orders), (4, 4))
        self.told("0:b 2:b 4:e 5:b 6:b", (board, orders), (None, 4))

    def test_the_order_is_that_of_fields(self):
        situation = told(FULL, "0:a 1:b 2:a", "0 go 1; 1 stay; 2 back 0 1")
        self.assertEqual(tuple(range(3, 24)), exits(*situation)[0])
        self.told("1:a 2:a 23:b", situation, (23,))

    def test_nobody_is_pushed_out(self):
        situation = told(WHEEL, "0:a", "0 go 1")
        self.told("1:a", situation, ())
        for outs in ((None,), (0,), ((),), [], None, 0, "", {}, False):
            self.unfit(situation, outs)
        self.told("", ((WHEEL, ()), ()), ())
        self.unfit(((WHEEL, ()), ()), (None,))

    def test_unfit_outs(self):
        for outs in ((), (2, 2), (2, None), (None, 2), (None, None), (0,), (1,), (3,), (4,), (5,), (-1,), (True,), (False,),
                     ("2",), ((2,),), [2], [None], 2, None, True, "2", "-", {0: 2}, ([2],), ({},), (10 ** 399,)):
            self.unfit((THREE, BACK), outs)

    def test_a_bool_is_no_field(self):
        # 1 is an exit here, and so is 0: True and False are none.
        situation = told(FULL, "2:b 3:a 4:b", "2 go 3; 3 stay; 4 back 2 3")
        self.told("0:a 3:b 4:b", situation, (0,))
        self.told("1:a 3:b 4:b", situation, (1,))
        for outs in ((True,), (False,), ((0,),), ([1],)):
            self.unfit(situation, outs)

    def test_values_of_all_kinds(self):
        for value in any_values():
            self.unfit((THREE, BACK), value)
            if value is not None and value != 2:
                self.unfit((THREE, BACK), (value,))

    def test_outs_with_any_part_exchanged(self):
        board, orders = SHOVES
        right = [(4, 4), (4, None), (None, 4), (None, None)]
        for value in exchanged((4, None), any_values()):
            if value not in right:
                self.unfit(SHOVES, value)
        self.assertEqual([len(behind(board, orders, outs)) for outs in right], [4, 5, 5, 4])

    def test_what_was_handed_in_is_as_it_was(self):
        value = [2, [None], {0: None}]
        call_alike(self, behind, board=THREE, orders=BACK, outs=value)
        self.assertEqual([2, [None], {0: None}], value)


class AgainstThePlainOnes(unittest.TestCase):
    def compare(self, board, orders):
        plain = Round(board, orders)
        self.assertEqual(plain.pushed_out(), pushed_out(board, orders), (board, orders))
        self.assertEqual(plain.fought_over(), fought_over(board, orders), (board, orders))
        self.assertEqual(plain.exits(), exits(board, orders), (board, orders))
        for outs in list(plain.all_outs())[:40]:
            self.assertEqual(plain.behind(outs), behind(board, orders, outs), (board, orders, outs))
        self.check_what_holds(board, orders)
        return len(plain.pushed_out())

    def check_what_holds(self, board, orders):
        out = [place for place, _ in pushed_out(board, orders)]
        left = behind(board, orders, (None,) * len(out))
        self.assertEqual(len(board[1]) - len(out), len(left))
        self.assertEqual(tuple(sorted(dict(left).items())), left)
        self.assertFalse(set(out) & set(standing(board, orders)))

    def test_situations(self):
        for _, chart, pieces_told, orders_told, _ in SITUATIONS:
            self.compare(*told(chart, pieces_told, orders_told))
        for _, chart, pieces_told, orders_told, *_ in ENDS:
            self.compare(*told(chart, pieces_told, orders_told))
        self.compare(*SHOVES)
        self.compare(*THREE_SHOVES)

    def test_all_orders_of_small_boards(self):
        for board in (THREE, (LINE, ((0, 0), (1, 1), (2, 0)))):
            for orders in orders_of_all(board):
                self.compare(board, orders)

    def test_drawn_boards(self):
        for board, orders in drawn_boards(41, 300):
            self.compare(board, orders)

    def test_drawn_pushes(self):
        for seed, players in ((42, 3), (45, 2), (46, 6)):
            pushed = [self.compare(board, orders) for board, orders in drawn_pushes(seed, 200, players=players)]
            self.assertGreater(pushed.count(1), 20)
            self.assertGreater(pushed.count(2), 1)

    def test_drawn_rings(self):
        for board, orders in drawn_rings(43, 150):
            self.compare(board, orders)

    def test_fields_called_otherwise(self):
        for board, orders in drawn_pushes(44, 100):
            many = board[0][0]
            names = [*range(1, many), 0]
            other, other_orders, places = fields_renamed(board, orders, names)
            told_here = {places[place]: (names[field], sorted(names[item] for item in fields))
                         for (place, field), fields in zip(pushed_out(board, orders), exits(board, orders))}
            told_there = {place: (field, list(fields)) for (place, field), fields
                          in zip(pushed_out(other, other_orders), exits(other, other_orders))}
            self.assertEqual(told_here, told_there)
            self.assertEqual(sorted(names[field] for field in fought_over(board, orders)),
                             list(fought_over(other, other_orders)))


class Sixteen(unittest.TestCase):
    def test_lines_and_rings(self):
        board = (FULL, tuple((field, field % 3) for field in range(16)))
        line = tuple(("go", field + 1) for field in range(16))
        returns(self, tuple((field + 1, field % 3) for field in range(16)), behind, board=board, orders=line, outs=())
        ring = (*line[:15], ("go", 0))
        expected = ((0, 0), *[(field + 1, field % 3) for field in range(15)])
        returns(self, expected, behind, board=board, orders=ring, outs=())
        for orders in (line, ring):
            for function in (pushed_out, fought_over, exits):
                returns(self, (), function, board=board, orders=orders)

    def test_five_are_pushed_out(self):
        pieces = [(field, 0) for field in range(5)] + [(field, 1) for field in range(5, 15)]
        board = (FULL, tuple(pieces))
        orders = (*[("stay",)] * 5, *[("go", field) for field in range(5)],
                  *[("back", field + 5, field) for field in range(5)])
        returns(self, tuple((place, place + 5) for place in range(5)), pushed_out, board=board, orders=orders)
        # Each may withdraw where another one's pusher came from, but not where its own one did.
        free = [field for field in range(24) if field not in range(5) and field not in range(10, 15)]
        expected = tuple(tuple(field for field in free if field != place + 5) for place in range(5))
        returns(self, expected, exits, board=board, orders=orders)
        outs = (6, 5, 20, 20, 20)
        self.assertEqual("0:b 1:b 2:b 3:b 4:b 5:a 6:a 10:b 11:b 12:b 13:b 14:b",
                         pieces_text(behind(board, orders, outs)))


if __name__ == "__main__":
    unittest.main()
