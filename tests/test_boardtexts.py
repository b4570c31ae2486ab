"""The texts of pieces and of orders [B4], [B5]."""
import itertools
import unittest

from tests.plain import (BARE, FOUR, FULL, LINE, STAR, THREE, WHEEL, drawn_boards, error_of_board, error_of_orders,
                         orders_of_all)
from tests.support import any_values, is_plain, raises, returns, spoiled
from whateverothers.boardtexts import orders_text, pieces_text, read_orders, read_pieces
from whateverothers.errors import BadText

SIGNS = tuple(" 0123456789:;,-+_.abfgAF\n\tostay") + ("\u0663", "\u00b2", "\uff11", "\u00a0", "\u0430")
NONE = (WHEEL, ())
HELD = ("0 stay; 1 go 2; 4 back 1 2", (("stay",), ("go", 2), ("back", 1, 2)))


def plain_pieces(chart, value):
    """The pieces told by a text that is right sign by sign, None if it is not."""
    told = []
    for word in value.split(" ") if value else []:
        names = {f"{field}:{letter}": (field, player)
                 for field in range(chart[0]) for player, letter in enumerate("abcdef")}
        if word not in names:
            return None
        told.append(names[word])
    return tuple(told) if error_of_board((chart, tuple(told))) is None else None


def plain_orders(board, value):
    """The orders told by a text that is right sign by sign, None if it is not."""
    words = {str(field): field for field in range(board[0][0])}
    told, parts = [], value.split("; ") if value else []
    for part, (field, _) in itertools.zip_longest(parts, board[1], fillvalue=(None, None)):
        if not isinstance(part, str) or field is None or not part.startswith(f"{field} "):
            return None
        word, *rest = part[len(f"{field} "):].split(" ")
        if any(item not in words for item in rest):
            return None
        told.append((word, *[words[item] for item in rest]))
    return tuple(told) if error_of_orders(board, tuple(told)) is None else None


class Pieces(unittest.TestCase):
    def test_texts(self):
        for pieces, text in (((), ""), (((0, 0),), "0:a"), (((4, 5),), "4:f"), (((0, 1), (3, 2)), "0:b 3:c"),
                             (((1, 3), (2, 4), (4, 3)), "1:d 2:e 4:d")):
            returns(self, text, pieces_text, pieces=pieces)
            returns(self, pieces, read_pieces, chart=WHEEL, value=text)
        returns(self, "9:a 10:f 23:c", pieces_text, pieces=((9, 0), (10, 5), (23, 2)))
        returns(self, ((9, 0), (10, 5), (23, 2)), read_pieces, chart=BARE, value="9:a 10:f 23:c")

    def test_all_of_two_pieces_there_and_back(self):
        seen = {}
        for one, other in itertools.combinations(range(5), 2):
            for players in itertools.product(range(6), repeat=2):
                pieces = ((one, players[0]), (other, players[1]))
                self.assertEqual(repr(pieces), repr(read_pieces(WHEEL, pieces_text(pieces))))
                self.assertEqual(pieces, seen.setdefault(pieces_text(pieces), pieces))

    def test_drawn_pieces_there_and_back(self):
        for board, _ in drawn_boards(3, 100, players=6):
            self.assertEqual(repr(board[1]), repr(read_pieces(board[0], pieces_text(board[1]))))

    def test_sixteen_are_read_and_seventeen_are_not(self):
        text = " ".join(f"{field}:b" for field in range(16))
        returns(self, tuple((field, 1) for field in range(16)), read_pieces, chart=BARE, value=text)
        raises(self, "BadText", read_pieces, chart=BARE, value=text + " 16:b")

    def test_fields_are_those_of_the_chart(self):
        returns(self, ((23, 0),), read_pieces, chart=FULL, value="23:a")
        raises(self, "BadText", read_pieces, chart=WHEEL, value="5:a")
        raises(self, "BadText", read_pieces, chart=FULL, value="24:a")
        raises(self, "BadText", read_pieces, chart=(1, (), ()), value="1:a")

    def test_texts_of_none(self):
        wrongs = (" ", "0", "0:", ":a", ":", "a", "a:0", "0:g", "0:A", "0:F", "0:aa", "0:ab", "0:abcdef", "0:0", "0: a",
                  "0 :a", "0a", "0-a", "0;a", "0::a", "0:a:", " 0:a", "0:a ", "0:a  1:b", "0:a,1:b", "0:a; 1:b",
                  "0:a1:b", "0:a\n", "\n0:a", "0:a\n1:b", "0:a\t1:b", "00:a", "01:a", "-1:a", "+1:a", "-0:a", "1.0:a",
                  "5:a", "10:a", "0:a 0:a", "0:a 0:b", "1:a 0:a", "0:a 2:a 1:a", "0:a 1:g", "0:a 5:a", "\u0660:a",
                  "\u00b2:a", "0:\u0430", "0\uff1aa", "0:a\u00a01:b", "9" * 400 + ":a", "0" * 9000 + ":a",
                  "9" * 5000 + ":a", "0:" + "a" * 9000, " " * 20000, "0:a " * 5000, ":" * 20000)
        for value in wrongs:
            self.assertIsNone(plain_pieces(WHEEL, value), value)
            raises(self, "BadText", read_pieces, chart=WHEEL, value=value)

    def test_values_of_all_kinds(self):
        for value in [value for value in any_values() if value != "" or not isinstance(value, str)]:
            raises(self, "BadText", read_pieces, chart=WHEEL, value=value)
        raises(self, "BadText", read_pieces, chart=WHEEL, value=((0, 0),))
        raises(self, "BadText", read_pieces, chart=WHEEL, value=["0:a"])

    def test_spoiled_texts(self):
        for chart, text in ((WHEEL, "0:a 1:b 3:b 4:f"), (BARE, "1:c 12:d"), (WHEEL, "")):
            for value in spoiled(text, SIGNS):
                self.compare(chart, value)

    def compare(self, chart, value):
        pieces = plain_pieces(chart, value)
        if pieces is None:
            with self.assertRaises(BadText, msg=value):
                read_pieces(chart, value)
        else:
            self.assertEqual(repr(pieces), repr(read_pieces(chart, value)))


class Orders(unittest.TestCase):
    def test_texts(self):
        for board, text, orders in ((THREE, *HELD), (NONE, "", ()), ((LINE, ((3, 0),)), "3 stay", (("stay",),)),
                                    ((FULL, ((9, 0), (23, 1))), "9 back 23 10; 23 go 0", (("back", 23, 10), ("go", 0))),
                                    (FOUR, "0 back 4 4; 1 back 3 2; 3 back 0 0; 4 go 2",
                                     (("back", 4, 4), ("back", 3, 2), ("back", 0, 0), ("go", 2)))):
            returns(self, text, orders_text, board=board, orders=orders)
            returns(self, orders, read_orders, board=board, value=text)

    def test_all_orders_there_and_back(self):
        for board in (THREE, (LINE, ((0, 0), (1, 1), (3, 1))), (STAR, ((0, 0), (5, 1)))):
            seen = {}
            for orders in orders_of_all(board):
                text = orders_text(board, orders)
                self.assertEqual(repr(orders), repr(read_orders(board, text)))
                self.assertEqual(orders, seen.setdefault(text, orders))

    def test_drawn_orders_there_and_back(self):
        for board, orders in drawn_boards(4, 200, most_fields=16, most_pieces=16):
            self.assertEqual(repr(orders), repr(read_orders(board, orders_text(board, orders))))

    def test_texts_of_none(self):
        wrongs = ("", " ", "; ", ";", "0 stay", "0 stay; 1 stay", "0 stay; 1 stay; 4 stay; 4 stay",
                  "0 stay; 1 stay; 4 stay; ", "; 0 stay; 1 stay; 4 stay", "0 stay; ; 1 stay; 4 stay",
                  "1 stay; 0 stay; 4 stay", "0 stay; 4 stay; 1 stay", "0 stay; 0 stay; 4 stay", "0 stay; 1 stay; 3 stay",
                  "1 stay; 1 stay; 4 stay", "stay; stay; stay", "0 stay;1 stay;4 stay", "0 stay;  1 stay; 4 stay",
                  "0 stay ; 1 stay; 4 stay", "0  stay; 1 stay; 4 stay", " 0 stay; 1 stay; 4 stay",
                  "0 stay; 1 stay; 4 stay ", "0 stay; 1 stay; 4 stay\n", "0 stay\n1 stay\n4 stay", "0 stay, 1 stay, 4 stay",
                  "0 stay; 1 stay; 4", "0 stay; 1 stay; 4 ", "0 stay; 1 stay; 04 stay", "00 stay; 1 stay; 4 stay",
                  "0 stay 0; 1 stay; 4 stay", "0 Stay; 1 stay; 4 stay", "0 wait; 1 stay; 4 stay", "0 go; 1 stay; 4 stay",
                  "0 go 1 1; 1 stay; 4 stay", "0 go 2; 1 stay; 4 stay", "0 go 0; 1 stay; 4 stay", "0 go 01; 1 stay; 4 stay",
                  "0 go 5; 1 stay; 4 stay", "0 go -1; 1 stay; 4 stay", "0 go +1; 1 stay; 4 stay", "0 go a; 1 stay; 4 stay",
                  "0 go  1; 1 stay; 4 stay", "0 GO 1; 1 stay; 4 stay", "0 back 1; 1 stay; 4 stay",
                  "0 back 1 2; 1 stay; 4 stay", "0 back 0 1; 1 stay; 4 stay", "0 back 3 3; 1 stay; 4 stay",
                  "0 back 1 1 1; 1 stay; 4 stay", "0 back 1-4; 1 stay; 4 stay", "0 go \u0661; 1 stay; 4 stay",
                  "0 go \u00b9; 1 stay; 4 stay", "0 go " + "1" * 9000 + "; 1 stay; 4 stay",
                  "0 go " + "0" * 9000 + "1; 1 stay; 4 stay", "0 stay; " * 2000, " " * 20000, ";" * 20000, "0:a 1:b 4:a")
        for value in wrongs:
            self.assertIsNone(plain_orders(THREE, value), value)
            raises(self, "BadText", read_orders, board=THREE, value=value)

    def test_no_pieces(self):
        for value in (" ", ";", "; ", "0 stay", "stay", "0", "\n"):
            raises(self, "BadText", read_orders, board=NONE, value=value)

    def test_orders_of_another_board(self):
        returns(self, HELD[1], read_orders, board=THREE, value=HELD[0])
        raises(self, "BadText", read_orders, board=FOUR, value=HELD[0])
        raises(self, "BadText", read_orders, board=NONE, value=HELD[0])
        raises(self, "BadText", read_orders, board=(BARE, THREE[1]), value=HELD[0])

    def test_values_of_all_kinds(self):
        for value in any_values():
            raises(self, "BadText", read_orders, board=THREE, value=value)
        raises(self, "BadText", read_orders, board=THREE, value=HELD[1])
        raises(self, "BadText", read_orders, board=NONE, value=())
        raises(self, "BadText", read_orders, board=NONE, value=None)

    def test_spoiled_texts(self):
        for board, text in ((THREE, HELD[0]), (FOUR, "0 go 1; 1 stay; 3 go 4; 4 back 0 1"), (NONE, ""),
                            ((FULL, ((2, 0), (12, 1))), "2 back 12 1; 12 go 22")):
            for value in spoiled(text, SIGNS):
                self.compare(board, value)

    def test_parts_left_out_twice_and_turned_about(self):
        parts = HELD[0].split("; ")
        for many in range(5):
            for row in itertools.product(parts, repeat=many):
                self.compare(THREE, "; ".join(row))

    def compare(self, board, value):
        orders = plain_orders(board, value)
        if orders is None:
            with self.assertRaises(BadText, msg=value):
                read_orders(board, value)
        else:
            self.assertEqual(repr(orders), repr(read_orders(board, value)))

    def test_nothing_returned_can_change(self):
        self.assertTrue(is_plain(read_orders(THREE, HELD[0])))
        self.assertTrue(is_plain(read_pieces(WHEEL, "0:a 4:f")))


if __name__ == "__main__":
    unittest.main()
