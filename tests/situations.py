"""Boards and orders with all settlements that keep the rules, found by hand."""
from tests.plain import FULL, WHEEL
from whateverothers.boardtexts import read_orders, read_pieces

TRIANGLES = (6, ((0, 1), (0, 2), (1, 2), (3, 4), (3, 5), (4, 5)), ())

# What is shown, the chart, pieces, orders, and all settlements that keep the rules, with "+" for True.
SITUATIONS = (
    ("nobody", WHEEL, "", "", [""]),
    ("a stay", WHEEL, "0:a", "0 stay", ["+"]),
    ("into a free field", WHEEL, "0:a", "0 go 1", ["+"]),
    ("into a held field", WHEEL, "0:a 1:b", "0 go 1; 1 stay", ["-+"]),
    ("into the field of what backs", WHEEL, "0:a 1:b", "0 go 1; 1 back 0 4", ["--"]),
    ("into a held field with a back", WHEEL, "0:a 1:b 4:a", "0 go 1; 1 stay; 4 back 0 1", ["+++"]),
    ("with the back of a third player", WHEEL, "0:a 1:b 4:c", "0 go 1; 1 stay; 4 back 0 1", ["+++"]),
    ("into a field held with a back", FULL, "0:a 1:b 2:a 4:b", "0 go 1; 1 stay; 2 back 0 1; 4 back 1 1", ["-+++"]),
    ("two backs against one", FULL, "0:a 1:b 2:a 3:c 4:b",
     "0 go 1; 1 stay; 2 back 0 1; 3 back 0 1; 4 back 1 1", ["+++++"]),
    ("two into one field", WHEEL, "0:a 2:b", "0 go 1; 2 go 1", ["--"]),
    ("two of one player into one field", WHEEL, "0:a 2:a", "0 go 1; 2 go 1", ["--"]),
    ("two into one field, one with a back", WHEEL, "0:a 2:b 4:a", "0 go 1; 2 go 1; 4 back 0 1", ["+-+"]),
    ("two into one field, both with backs", FULL, "0:a 2:b 4:a 5:b",
     "0 go 1; 2 go 1; 4 back 0 1; 5 back 2 1", ["--++"]),
    ("two into a held field", FULL, "0:a 1:b 2:c 3:a 4:c",
     "0 go 1; 1 stay; 2 go 1; 3 back 0 1; 4 back 2 1", ["-+-++"]),
    ("a strong and a weak one into a held field", FULL, "0:a 1:b 2:c 3:a",
     "0 go 1; 1 stay; 2 go 1; 3 back 0 1", ["++-+"]),
    ("against each other", WHEEL, "0:a 1:b", "0 go 1; 1 go 0", ["--"]),
    ("own ones against each other", WHEEL, "0:a 1:a", "0 go 1; 1 go 0", ["--"]),
    ("own ones against each other with a back", WHEEL, "0:a 1:a 4:a", "0 go 1; 1 go 0; 4 back 0 1", ["--+"]),
    ("against each other with a back", WHEEL, "0:a 1:b 4:a", "0 go 1; 1 go 0; 4 back 0 1", ["+-+"]),
    ("against each other with a back each", FULL, "0:a 1:b 3:b 4:a",
     "0 go 1; 1 go 0; 3 back 1 0; 4 back 0 1", ["--++"]),
    ("following", WHEEL, "0:a 1:b", "0 go 1; 1 go 2", ["++"]),
    ("following an own one", WHEEL, "0:a 1:a", "0 go 1; 1 go 2", ["++"]),
    ("following one that is held up", WHEEL, "0:a 1:b 2:a", "0 go 1; 1 go 2; 2 stay", ["--+"]),
    ("pushing out one that is held up", WHEEL, "0:a 1:b 2:a 4:a", "0 go 1; 1 go 2; 2 stay; 4 back 0 1", ["+-++"]),
    ("a go holds its field with 1, whatever backs it", FULL, "0:a 1:b 2:a 3:a 4:b 5:a",
     "0 go 1; 1 go 3; 2 back 0 1; 3 stay; 4 back 1 3; 5 back 3 3", ["+-++++"]),
    ("an own one that is held up", WHEEL, "0:a 1:a 2:b 4:a", "0 go 1; 1 go 2; 2 stay; 4 back 0 1", ["--++"]),
    ("round in a ring", WHEEL, "0:a 1:b 4:a", "0 go 1; 1 go 4; 4 go 0", ["---", "+++"]),
    ("round in a ring of four", WHEEL, "0:a 1:b 2:c 3:d", "0 go 1; 1 go 2; 2 go 3; 3 go 0", ["----", "++++"]),
    ("round in an own ring", WHEEL, "0:a 1:a 4:a", "0 go 1; 1 go 4; 4 go 0", ["---", "+++"]),
    ("two rings", TRIANGLES, "0:a 1:b 2:a 3:b 4:b 5:c", "0 go 1; 1 go 2; 2 go 0; 3 go 4; 4 go 5; 5 go 3",
     ["------", "---+++", "+++---", "++++++"]),
    ("a ring with a rival", WHEEL, "0:a 1:b 3:b 4:a", "0 go 1; 1 go 4; 3 go 4; 4 go 0", ["----"]),
    ("a ring with a rival and a back", WHEEL, "0:a 1:b 2:b 3:b 4:a",
     "0 go 1; 1 go 4; 2 back 1 4; 3 go 4; 4 go 0", ["+++-+"]),
    ("a ring with one that pushes anyhow", WHEEL, "0:a 1:b 2:b 4:a", "0 go 1; 1 go 4; 2 back 1 4; 4 go 0", ["++++"]),
    ("into the field of an own one", WHEEL, "0:a 1:a 4:a", "0 go 1; 1 stay; 4 back 0 1", ["-++"]),
    ("with a back by the player who would be pushed out", WHEEL, "0:a 1:b 4:b", "0 go 1; 1 stay; 4 back 0 1", ["-++"]),
    ("with such a back and another one", FULL, "0:a 1:b 2:b 3:a",
     "0 go 1; 1 stay; 2 back 0 1; 3 back 0 1", ["++++"]),
    ("such a back counts where that player's piece leaves", FULL, "0:a 1:b 2:b 3:c",
     "0 go 1; 1 go 4; 2 back 0 1; 3 go 1", ["+++-"]),
    ("such a back does not count against a rival if nobody leaves", FULL, "0:a 1:b 2:b 3:c 4:a 5:c",
     "0 go 1; 1 stay; 2 back 0 1; 3 go 1; 4 back 0 1; 5 back 3 1", ["-++-++"]),
    ("but it bars the rival", FULL, "0:a 1:b 2:b 3:c 5:c",
     "0 go 1; 1 stay; 2 back 0 1; 3 go 1; 5 back 3 1", ["-++-+"]),
    ("a back of a go of what stays", WHEEL, "0:a 1:b 4:a", "0 stay; 1 stay; 4 back 0 1", ["++-"]),
    ("a back in staying of what goes", WHEEL, "0:a 1:b 4:a", "0 go 3; 1 stay; 4 back 0 0", ["++-"]),
    ("a back of a go to another field", WHEEL, "0:a 1:b 4:a", "0 go 3; 1 stay; 4 back 0 1", ["++-"]),
    ("a back of what backs", WHEEL, "0:a 1:b 4:a", "0 back 1 1; 1 stay; 4 back 0 0", ["+++"]),
    ("a back of a go of what backs", WHEEL, "0:a 1:b 4:a", "0 back 1 1; 1 stay; 4 back 0 3", ["++-"]),
    ("a back that is cut from aside", WHEEL, "0:a 1:b 3:b 4:a", "0 go 1; 1 stay; 3 go 4; 4 back 0 1", ["-+--"]),
    ("a back that is cut by a third player", WHEEL, "0:a 1:b 3:c 4:a", "0 go 1; 1 stay; 3 go 4; 4 back 0 1", ["-+--"]),
    ("a back that is cut by the player whom it helps", WHEEL, "0:a 1:b 3:a 4:c",
     "0 go 1; 1 stay; 3 go 4; 4 back 0 1", ["-+--"]),
    ("a back that own pieces come at", WHEEL, "0:a 1:b 3:a 4:a", "0 go 1; 1 stay; 3 go 4; 4 back 0 1", ["++-+"]),
    ("a back that is come at from the field aimed at", WHEEL, "0:a 1:b 4:a", "0 go 1; 1 go 4; 4 back 0 1", ["+-+"]),
    ("a back that is lost to the field aimed at", WHEEL, "0:a 1:b 2:b 4:a",
     "0 go 1; 1 go 4; 2 back 1 4; 4 back 0 1", ["+++-"]),
    ("a back from aside of a back that is lost", WHEEL, "0:a 1:b 2:b 3:a 4:a",
     "0 go 1; 1 go 4; 2 back 1 4; 3 go 2; 4 back 0 1", ["+---+"]),
    ("a back in staying that is cut", WHEEL, "0:a 1:b 2:c 4:a", "0 go 1; 1 stay; 2 back 1 1; 4 go 2", ["-+--"]),
    ("a back of what is backed against its pusher", FULL, "0:a 1:b 2:a 3:b 4:a",
     "0 go 1; 1 back 3 3; 2 back 0 1; 3 stay; 4 go 3", ["+-++-"]),
    ("one that is repelled", WHEEL, "0:a 1:b 2:a 4:b", "0 go 1; 1 go 2; 2 go 1; 4 back 1 2", ["++-+"]),
    ("one that is not repelled", WHEEL, "0:a 1:b 2:a", "0 go 1; 1 go 2; 2 go 1", ["---"]),
    ("one that is repelled, and another rival", FULL, "0:a 1:b 2:a 3:c 4:b",
     "0 go 1; 1 go 2; 2 go 1; 3 go 1; 4 back 1 2", ["-+--+"]),
    ("one that nobody repels, as strong as the go", FULL, "0:a 1:b 2:c 3:a 4:b 5:c",
     "0 go 1; 1 go 2; 2 go 1; 3 back 0 1; 4 back 1 2; 5 back 2 1", ["---+++"]),
    ("one that nobody repels, weaker than the go", FULL, "0:a 1:b 2:c 3:a", "0 go 1; 1 go 2; 2 go 1; 3 back 0 1",
     ["+--+"]),
    ("gos of what is pushed out bar", FULL, "0:a 1:a 2:b 4:c", "0 go 2; 1 back 0 2; 2 go 3; 4 go 3", ["++--"]),
)


def board_of(chart, pieces_told):
    return (chart, read_pieces(chart, pieces_told))


def told(chart, pieces_told, orders_told):
    """A board and its orders, by their texts."""
    board = board_of(chart, pieces_told)
    return board, read_orders(board, orders_told)


def own_of(board, player, text):
    """Own orders by a text like that of orders, for the pieces of the player alone."""
    parts = [part.split(" ") for part in text.split("; ")] if text else []
    told = {int(field): (word, *[int(item) for item in more]) for field, word, *more in parts}
    assert set(told) == {field for field, owner in board[1] if owner == player}
    return tuple(told.get(field) for field, _ in board[1])
