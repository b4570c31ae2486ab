"""Papers [H1], [H3], [H4]."""
import itertools
import unittest

from tests.plain import FOUR, LINE, THREE
from tests.plainsure import (all_own, crowd, drawn_own, error_of_paper, error_of_sound, in_the_way, is_sure,
                             many_orders, orders_that_keep)
from tests.situations import board_of, own_of
from tests.support import any_values, call_alike, exchanged, is_plain, returns, shown, subsets
from tests.test_surety import SURE, YARD, drawn_ways
from whateverothers.breaking import paper, paper_error
from whateverothers.surety import sure

PUSH = (("go", 1), None, None, ("back", 0, 1))
BASE, BOTH = (YARD, ((0, 0), (1, 1), (2, 0), (3, 0), (4, 1))), (("go", 1), None, ("back", 0, 1), ("back", 0, 1), None)


def by_hand():
    for why, chart, pieces_told, own_told, sure_fields, _ in SURE:
        board = board_of(chart, pieces_told)
        yield why, board, own_of(board, 0, own_told), sure_fields


def own_places(own):
    return [place for place, item in enumerate(own) if item is not None]


class Papers(unittest.TestCase):
    def right(self, board, own, place):
        """The word of the paper, which is right."""
        told = paper(board, own, place)
        self.assertTrue(is_plain(told))
        self.assertIsNone(error_of_paper(board, own, place, told), (board, own, place, told))
        self.assertIsNone(paper_error(board, own, place, told), (board, own, place, told))
        return told[0]

    def compare(self, drawn):
        words = []
        for board, player, own in drawn:
            if error_of_sound(board, player, own) is None:
                for place in own_places(own):
                    word = self.right(board, own, place)
                    self.assertEqual("sure" if sure(board, own, place) else "broken", word, (board, own, place))
                    words.append(word)
        return words.count("sure"), words.count("broken")

    def test_by_hand(self):
        for why, board, own, sure_fields in by_hand():
            with self.subTest(why):
                for place in own_places(own):
                    call_alike(self, paper, board=board, own=own, place=place)
                    word = "sure" if board[1][place][0] in sure_fields else "broken"
                    self.assertEqual(word, self.right(board, own, place))

    def test_papers_that_can_be_had_in_one_way(self):
        returns(self, ("sure", (((4,), ()), ((4,), ()))), paper, board=BASE, own=BOTH, place=0)
        returns(self, ("sure", ()), paper, board=(LINE, ((0, 0),)), own=(("go", 1),), place=0)
        returns(self, ("sure", ()), paper, board=(LINE, ((0, 0), (2, 1))), own=(("stay",), None), place=0)
        returns(self, ("sure", (((), ()),)), paper, board=(LINE, ((0, 0), (1, 1))), own=(("stay",), None), place=0)
        returns(self, ("broken", (("go", 1), ("go", 1))), paper, board=(LINE, ((0, 0), (2, 1))), own=(("go", 1), None),
                place=0)

    def test_of_a_chain_all_bars_are_in_the_way(self):
        board = board_of((8, ((0, 1), (1, 2), (1, 6), (2, 3), (2, 7), (4, 6), (5, 7)), ()), "0:a 1:a 3:b 6:a 7:a")
        own = own_of(board, 0, "0 go 1; 1 go 2; 6 stay; 7 back 1 2")
        returns(self, ("sure", (((), ()),)), paper, board=board, own=own, place=0)
        returns(self, ("sure", (((), ()),)), paper, board=board, own=own, place=1)
        own = own_of(board, 0, "0 go 1; 1 go 2; 6 back 0 1; 7 stay")
        for place in (0, 1):
            returns(self, ("broken", (("go", 1), ("go", 2), ("go", 2), ("back", 0, 1), ("stay",))), paper, board=board,
                    own=own, place=place)

    def test_drawn_boards(self):
        sure_many, broken_many = self.compare([*drawn_own(101, 900), *drawn_own(102, 400, players=2),
                                               *drawn_own(103, 200, most_fields=14, most_pieces=13)])
        self.assertGreater(sure_many, 150)
        self.assertGreater(broken_many, 150)

    def test_chains_and_rings(self):
        sure_many, broken_many = self.compare([(board, 0, own) for board, own in drawn_ways(104, 200)])
        self.assertGreater(sure_many, 150)
        self.assertGreater(broken_many, 150)

    def test_sixteen_pieces(self):
        sure_many, broken_many = self.compare([(board, 0, own) for board, own in map(crowd, range(12))])
        self.assertGreater(sure_many, 5)
        self.assertGreater(broken_many, 40)

    def test_calls(self):
        for board, own in map(crowd, range(3)):
            for place in own_places(own):
                call_alike(self, paper, board=board, own=own, place=place)


class Errors(unittest.TestCase):
    def told(self, expected, value, board=BASE, own=BOTH, place=0):
        returns(self, expected, paper_error, board=board, own=own, place=place, value=value)
        self.assertEqual(expected, error_of_paper(board, own, place, value))

    def test_form(self):
        one = ((4,), ())
        for value in (("sure", (one,)), ("sure", (one, one, one)), ("sure", ()), ("sure", [one, one]),
                      ("maybe", (one, one)),
                      ["sure", (one, one)], ("sure",), ("broken",), ("broken", 1, 2), ("sure", (one, one), ()), (),
                      "sure",
                      ("Sure", (one, one)), ("sure ", (one, one)), (("sure",), (one, one)), (None, (one, one)),
                      (True, None), ("", ()), ("sure", None), ("sure", "ab"), ["broken", ()], ("breaks", ())):
            self.told("form", value)

    def test_covers(self):
        one = ((4,), ())
        self.told(None, ("sure", (one, one)))
        for item in (((), ()), ((), (2,)), ((), (3,)), ((), (2, 3)), ((4,), (2,)), ((4,), (2, 3)), ([4], ()),
                     ((4,), []),
                     ((1,), ()), ((4,),), ((4,), (), ()), [(4,), ()], None, (4, 0), (4, ()), ((4, 4), ()), ((5,), ()),
                     ((2,), (4,)), ((), (4,)), ((2,), ()), ((1, 4), ()), (("4",), ()), ((None,), ()), "ab", 1, True):
            self.told(("cover", 0), ("sure", (item, one)))
            self.told(("cover", 1), ("sure", (one, item)))
            self.told(("cover", 0), ("sure", (item, item)))

    def test_covers_with_bools_for_integers(self):
        # 0 could cut the back of the piece with the place 1, if only False were 0.
        board = board_of((5, ((0, 2), (1, 2), (1, 3), (1, 4), (2, 4), (3, 4)), ()), "0:b 1:a 2:a 3:a 4:b")
        own = own_of(board, 0, "1 back 3 3; 2 back 1 1; 3 stay")
        bars = in_the_way(board, own, 1)
        self.assertEqual([("pusher", 4, (), (0,), (2,))], bars)
        self.told(None, ("sure", (((0,), ()),)), board, own, 1)
        self.told(("cover", 0), ("sure", (((False,), ()),)), board, own, 1)
        self.told(None, ("sure", (((), (2,)),)), board, own, 1)
        self.told(("cover", 0), ("sure", (((), (True,)),)), board, own, 1)

    def test_out_of_order_and_twice(self):
        board = board_of((9, ((0, 1), (0, 2), (0, 3), (0, 8), (1, 4), (1, 5)), ()), "0:a 1:a 2:a 3:a 4:b 5:c 8:b")
        own = own_of(board, 0, "0 stay; 1 back 0 0; 2 back 0 0; 3 back 0 0")
        self.assertEqual([("pusher", 6, (), (4, 5), (1, 2, 3))], in_the_way(board, own, 0))
        for right in (((), (1,)), ((4, 5), ()), ((), (1, 2, 3)), ((4,), (1,)), ((4,), (1, 3)), ((4, 5), (2,))):
            self.told(None, ("sure", (right,)), board, own)
        for wrong in (((5, 4), ()), ((4, 4, 5), ()), ((4, 5, 5), ()), ((), (3, 1)), ((), (1, 1)), ((4, 5), (1, 2)),
                      ((4,), (2, 3)), ((), (2, 3)), ((4,), ()), ((5,), ()), ((), ()), ((4, 6), (1,)), ((), (0, 1)),
                      ((4, 5), (1, 2, 3))):
            self.told(("cover", 0), ("sure", (wrong,)), board, own)

    def test_who_does_not_go_needs_one_back_less(self):
        board = board_of(FOUR[0], "0:a 1:b 3:c 4:a")
        stay, go = own_of(board, 0, "0 stay; 4 back 0 0"), own_of(board, 0, "0 go 1; 4 back 0 1")
        self.told(None, ("sure", (((), ()), ((), ()))), board, stay)
        self.told(("cover", 0), ("sure", (((2,), ()), ((), ()))), board, go)
        self.told(("cover", 0), ("sure", (((), (3,)), ((), ()))), board, go)

    def test_no_bars_at_all(self):
        board, own = (LINE, ((0, 0),)), (("go", 1),)
        self.told(None, ("sure", ()), board, own)
        self.told("form", ("sure", (((), ()),)), board, own)
        self.told("form", ("sure", []), board, own)
        self.told("holds", ("broken", (("go", 1),)), board, own)
        self.told("orders", ("broken", (("stay",),)), board, own)
        self.told("holds", ("broken", (("stay",),)), board, (("stay",),))

    def test_orders(self):
        cut = (("go", 1), ("stay",), ("go", 4), ("back", 0, 1))
        self.told(None, ("broken", cut), FOUR, PUSH)
        for orders in (PUSH, None, (), cut[:3], cut + (("stay",),), list(cut), (("stay",), *cut[1:]),
                       (*cut[:3], ("stay",)),
                       (*cut[:2], ("go", 1), cut[3]), (*cut[:1], ("go", True), *cut[2:]), (cut[0], None, *cut[2:]),
                       (*cut[:2], ["go", 4], cut[3]), ("go", 1), cut[::-1], 1, True, "orders",
                       (*cut[:1], ("go", 5), *cut[2:])):
            self.told("orders", ("broken", orders), FOUR, PUSH)
        self.told("orders", ("broken", (("go", True), *cut[1:])), FOUR, PUSH)

    def test_holds(self):
        for orders in ((("go", 1), ("stay",), ("stay",), ("back", 0, 1)),
                       (("go", 1), ("go", 4), ("stay",), ("back", 0, 1)),
                       (("go", 1), ("go", 2), ("go", 2), ("back", 0, 1))):
            self.told("holds", ("broken", orders), FOUR, PUSH)
        hold = (("stay",), None, None, ("stay",))
        pushed = (("stay",), ("go", 4), ("back", 1, 4), ("stay",))
        self.told(None, ("broken", pushed), FOUR, hold, 3)
        self.told("holds", ("broken", pushed), FOUR, hold, 0)
        self.told("holds", ("broken", (("stay",), ("go", 4), ("go", 4), ("stay",))), FOUR, hold, 3)

    def test_values_of_all_kinds(self):
        for board, own, place in ((FOUR, PUSH, 0), (BASE, BOTH, 0), ((LINE, ((0, 0),)), (("go", 1),), 0)):
            many = len(in_the_way(board, own, place))
            for value in any_values():
                for tried in (value, ("sure", value), ("broken", value), (value, ()), (value, value),
                              ("sure", (value,) * many), ("sure", ((value, ()),) * many),
                              ("sure", (((), value),) * many),
                              ("sure", (((value,), ()),) * many), ("broken", (value,) * len(own))):
                    returns(self, error_of_paper(board, own, place, tried), paper_error, board=board, own=own,
                            place=place,
                            value=tried)


class AgainstAll(unittest.TestCase):
    def test_all_tuples_as_covers(self):
        seen = set()
        for _, board, own, _ in by_hand():
            for place in own_places(own):
                bars = in_the_way(board, own, place)
                right = paper(board, own, place)[1] if sure(board, own, place) else (((), ()),) * len(bars)
                for spot, bar in enumerate(bars):
                    taken = bar[2] + bar[3] + bar[4]
                    for item in itertools.product(subsets(taken), repeat=2) if len(taken) < 5 else ():
                        value = ("sure", (*right[:spot], item, *right[spot + 1:]))
                        told = paper_error(board, own, place, value)
                        self.assertEqual(error_of_paper(board, own, place, value), told, (board, own, place, value))
                        seen.add(told is None)
        self.assertEqual({True, False}, seen)

    def test_all_orders_that_keep_own(self):
        drawn = [(board, own) for _, board, own, _ in by_hand() if many_orders(board, own) <= 2000]
        for board in (THREE, (LINE, ((0, 0), (1, 0), (2, 1), (3, 0)))):
            drawn += [(board, own) for own in all_own(board, 0) if error_of_sound(board, 0, own) is None]
        for board, own in drawn:
            for place in own_places(own):
                errors = [paper_error(board, own, place, ("broken", orders)) for orders in orders_that_keep(board, own)]
                self.assertEqual([error_of_paper(board, own, place, ("broken", orders))
                                  for orders in orders_that_keep(board, own)], errors)
                # No piece has right papers of both kinds.
                self.assertEqual(is_sure(board, own, board[1][place][0]), None not in errors)

    def test_covers_of_what_is_not_sure_are_never_right(self):
        many = 0
        for board, player, own in drawn_own(111, 600, most_fields=8, most_pieces=7):
            if error_of_sound(board, player, own) is None:
                for place in [place for place in own_places(own) if not sure(board, own, place)]:
                    bars = in_the_way(board, own, place)
                    for covers in itertools.islice(self.all_covers(bars), 300):
                        self.assertIsNotNone(paper_error(board, own, place, ("sure", covers)))
                        many += 1
        self.assertGreater(many, 500)

    def all_covers(self, bars):
        choices = [list(itertools.product(subsets(bar[3]), subsets(bar[4]))) for bar in bars]
        return itertools.product(*choices)

    def test_papers_with_any_part_exchanged(self):
        others = [None, True, False, 0, 1, 2, 4, 9, (), (1,), ("stay",), ("go", 1), "sure", "broken", []]
        seen = set()
        for board, own, place in ((BASE, BOTH, 0), (FOUR, PUSH, 0), (FOUR, (("stay",), None, None, ("back", 0, 0)), 0),
                                  (FOUR, (("stay",), None, None, ("stay",)), 3)):
            for value in exchanged(paper(board, own, place), others):
                told = paper_error(board, own, place, value)
                self.assertEqual(shown(error_of_paper(board, own, place, value)), shown(told), value)
                seen.add(told if told is None or isinstance(told, str) else told[0])
        self.assertEqual({None, "form", "cover", "orders", "holds"}, seen)


if __name__ == "__main__":
    unittest.main()
