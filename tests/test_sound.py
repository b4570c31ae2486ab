"""Sound own orders [G1], [G2]."""
import unittest

from tests.plain import FOUR, FULL, LINE, STAR, THREE, WHEEL, renamed
from tests.plainsure import all_own, drawn_own, error_of_sound
from tests.situations import board_of, own_of
from tests.support import any_values, call_alike, exchanged, is_plain, returns, shown
from whateverothers.sound import sound_error


# What is shown, the chart, pieces, own orders of player a, and what is told of them.
SOUND = (
    ("nobody", WHEEL, "", "", None),
    ("nobody of this player", WHEEL, "0:b 1:c", "", None),
    ("all stay", WHEEL, "0:a 1:b 4:a", "0 stay; 4 stay", None),
    ("gos to unlike fields", WHEEL, "0:a 1:b 4:a", "0 go 1; 4 go 3", None),
    ("one behind another", WHEEL, "0:a 1:b 4:a", "0 go 4; 4 go 3", None),
    ("round in a ring", WHEEL, "0:a 1:a 4:a", "0 go 1; 1 go 4; 4 go 0", None),
    ("backs of a go and of a staying", WHEEL, "0:a 1:a 4:a", "0 go 3; 1 stay; 4 back 0 3", None),
    ("backs that do not fit", WHEEL, "0:a 1:a 4:a", "0 go 3; 1 back 4 0; 4 back 0 0", None),
    ("into a field of a foreign piece", WHEEL, "0:a 1:b 4:a", "0 go 1; 4 back 0 1", None),
    ("foreign, in staying", WHEEL, "0:a 1:b 4:a", "0 back 1 1; 4 stay", ("foreign", 0)),
    ("foreign, in going", WHEEL, "0:a 1:b 4:a", "0 stay; 4 back 1 2", ("foreign", 2)),
    ("foreign, the first", WHEEL, "0:a 1:b 2:c 4:a", "0 back 1 1; 4 back 2 2", ("foreign", 0)),
    ("foreign, not where a piece goes to", WHEEL, "0:a 1:b 4:a", "0 go 1; 4 back 0 1", None),
    ("same", WHEEL, "0:a 1:b 4:a", "0 go 3; 4 go 3", ("same", 2)),
    ("same, the first that goes where one ahead goes", STAR, "1:a 2:a 3:a", "1 go 0; 2 go 0; 3 go 0", ("same", 1)),
    ("same, of two goals", FULL, "0:a 1:a 2:a 3:a", "0 go 9; 1 go 8; 2 go 8; 3 go 9", ("same", 2)),
    ("stays", WHEEL, "0:a 1:b 4:a", "0 go 4; 4 stay", ("stays", 0)),
    ("stays, the greater place", WHEEL, "0:a 1:b 4:a", "0 stay; 4 go 0", ("stays", 2)),
    ("stays, it backs", WHEEL, "0:a 1:a 4:a", "0 go 4; 1 stay; 4 back 1 1", ("stays", 0)),
    ("stays, it backs this very go", FULL, "0:a 1:a 4:a", "0 go 4; 1 back 0 4; 4 stay", ("stays", 0)),
    ("stays, a foreign one does not count", WHEEL, "0:a 1:b", "0 go 1", None),
    ("meet", WHEEL, "0:a 1:b 4:a", "0 go 4; 4 go 0", ("meet", 0)),
    ("meet, other gos ahead", FULL, "0:a 1:a 4:a 7:a", "0 go 1; 1 go 9; 4 go 7; 7 go 4", ("meet", 2)),
    ("foreign ahead of same", FULL, "0:a 1:a 2:a 3:b", "0 go 9; 1 go 9; 2 back 3 3", ("foreign", 2)),
    ("foreign ahead of stays", WHEEL, "0:a 1:b 4:a", "0 go 4; 4 back 1 1", ("foreign", 2)),
    ("foreign ahead of meet", FULL, "0:a 1:a 2:a 3:b", "0 go 1; 1 go 0; 2 back 3 3", ("foreign", 2)),
    ("same ahead of stays", FULL, "0:a 1:a 2:a 3:a", "0 go 3; 1 go 9; 2 go 9; 3 stay", ("same", 2)),
    ("same ahead of meet", FULL, "0:a 1:a 2:a 3:a", "0 go 1; 1 go 0; 2 go 9; 3 go 9", ("same", 3)),
    ("same, to the field of what meets", FULL, "0:a 1:a 2:a", "0 go 1; 1 go 0; 2 go 0", ("same", 2)),
    ("stays ahead of meet", FULL, "0:a 1:a 2:a 3:a", "0 go 1; 1 go 0; 2 go 3; 3 stay", ("stays", 2)),
    ("all of them", FULL, "0:a 1:a 2:a 3:a 4:a 5:b", "0 go 1; 1 go 0; 2 go 1; 3 go 4; 4 back 5 5", ("foreign", 4)),
)


def told(case, expected, board, player, value):
    returns(case, expected, sound_error, board=board, player=player, value=value)


class Told(unittest.TestCase):
    def test_sound_and_unsound_orders(self):
        for why, chart, pieces_told, own_told, expected in SOUND:
            with self.subTest(why):
                board = board_of(chart, pieces_told)
                told(self, expected, board, 0, own_of(board, 0, own_told))

    def test_players_called_otherwise(self):
        for why, chart, pieces_told, own_told, expected in SOUND:
            board = board_of(chart, pieces_told)
            with self.subTest(why):
                told(self, expected, renamed(board, (5, 0, 1)), 5, own_of(board, 0, own_told))

    def test_form(self):
        right = (("stay",), None, ("stay",))
        for value in (right[:2], (*right, None), (*right, ("stay",)), list(right), (), None, True, 0, "0 stay", {},
                      {0: ("stay",), 2: ("stay",)}, ("stay",), ("back", 0, 1, 1)):
            told(self, "form", THREE, 0, value)
        for value in ((None,), [], None, "", {}, 0, ((),)):
            told(self, "form", (WHEEL, ()), 3, value)
        told(self, None, (WHEEL, ()), 3, ())

    def test_order(self):
        right = (("stay",), None, ("stay",))
        for at, items in ((0, (None, (), ("go", 2), ("go", 0), ("go", True), ["stay"], ("back", 0, 1), ("back", 1, 3), "stay",
                               ("stay", 0), ("back", 3, 3), 0, True)),
                          (1, (("stay",), (), False, 0, "", [], ("go", 0), (None,))),
                          (2, (None, ("go", 4), ("go", 5), ("back", 0, 0, 0), ("back", 4, 4), ("STAY",)))):
            for item in items:
                told(self, ("order", at), THREE, 0, right[:at] + (item,) + right[at + 1:])

    def test_the_first_that_is_wrong(self):
        told(self, ("order", 0), THREE, 0, (None, ("stay",), None))
        told(self, ("order", 1), THREE, 0, (("stay",), ("stay",), None))
        told(self, ("order", 2), THREE, 0, (("stay",), None, None))

    def test_order_goes_ahead_of_all_behind_it(self):
        told(self, ("order", 2), THREE, 0, (("back", 1, 1), None, None))
        told(self, ("order", 3), FOUR, 1, (None, ("go", 2), ("go", 2), ("stay",)))

    def test_players_without_a_piece(self):
        for player in (2, 3, 4, 5):
            told(self, None, THREE, player, (None, None, None))
            told(self, ("order", 0), THREE, player, (("stay",), None, None))
            told(self, ("order", 2), THREE, player, (None, None, ("stay",)))

    def test_the_other_player(self):
        told(self, None, THREE, 1, (None, ("go", 0), None))
        told(self, ("foreign", 1), THREE, 1, (None, ("back", 0, 0), None))
        told(self, ("order", 0), THREE, 1, (("stay",), None, ("stay",)))

    def test_values_of_all_kinds(self):
        for value in any_values():
            told(self, error_of_sound(THREE, 0, value), THREE, 0, value)
            for item in ((value, None, ("stay",)), (("stay",), value, ("stay",)), (("stay",), None, value)):
                told(self, error_of_sound(THREE, 0, item), THREE, 0, item)

    def test_with_any_part_exchanged(self):
        right = (("go", 1), None, ("back", 0, 1))
        self.assertIsNone(sound_error(THREE, 0, right))
        for value in exchanged(right, [None, True, 1, 0, "go", "stay", (), ("stay",), ("go", 4), ("go", 0), [1]]):
            self.assertEqual(shown(error_of_sound(THREE, 0, value)), shown(sound_error(THREE, 0, value)), value)

    def test_what_was_handed_in_is_as_it_was(self):
        value = [["stay"], None, {0: 1}]
        call_alike(self, sound_error, board=THREE, player=0, value=value)
        self.assertEqual([["stay"], None, {0: 1}], value)
        self.assertTrue(is_plain(sound_error(THREE, 0, (("go", 4), None, ("stay",)))))


class AgainstThePlainOne(unittest.TestCase):
    def test_all_own_orders_of_small_boards(self):
        found = set()
        for board in (THREE, (WHEEL, ((0, 0), (1, 0), (2, 0))), (LINE, ((0, 0), (1, 0), (2, 1), (3, 0))),
                      (WHEEL, ((0, 0), (1, 0), (2, 1), (4, 0)))):
            for own in all_own(board, 0):
                error = error_of_sound(board, 0, own)
                self.assertEqual(error, sound_error(board, 0, own), (board, own))
                found.add(error if error is None else error[0])
        self.assertEqual({None, "foreign", "same", "stays", "meet"}, found)

    def test_drawn_boards(self):
        for board, player, own in drawn_own(51, 600):
            for other in range(3):
                self.assertEqual(error_of_sound(board, other, own), sound_error(board, other, own), (board, own))

    def test_sixteen_pieces(self):
        board = (FULL, tuple((field, 0) for field in range(16)))
        line = tuple(("go", field + 1) for field in range(15))
        self.assertIsNone(sound_error(board, 0, (*line, ("go", 0))))
        self.assertIsNone(sound_error(board, 0, (*line, ("go", 23))))
        self.assertEqual(("stays", 14), sound_error(board, 0, (*line, ("stay",))))
        self.assertEqual(("same", 15), sound_error(board, 0, (*line, ("go", 14))))
        self.assertEqual(("meet", 14), sound_error(board, 0, (("stay",),) * 14 + (("go", 15), ("go", 14))))


if __name__ == "__main__":
    unittest.main()
