"""The interface: names, the files in which they are defined, and the arguments that they take."""
import ast
import importlib
import inspect
import pathlib
import unittest

from whateverothers.games import Game
from whateverothers.seats import Table
from whateverothers.shells import Shell

FOLDER = pathlib.Path(__file__).resolve().parent.parent / "whateverothers"

FUNCTIONS = {
    "charts": {"chart_error": "value", "near": "chart field"},
    "charttexts": {"chart_text": "chart", "read_chart": "value"},
    "boards": {"board_error": "value"},
    "ordering": {"orders_error": "board value", "orders_of": "board place"},
    "boardtexts": {"pieces_text": "pieces", "read_pieces": "chart value", "orders_text": "board orders",
                   "read_orders": "board value"},
    "rules": {"fits": "board orders place", "settlement_error": "board orders value"},
    "forces": {"standing": "board orders", "force": "board orders place"},
    "settling": {"settled": "board orders", "loose_rings": "board orders", "settlements": "board orders"},
    "reasons": {"reasons": "board orders"},
    "ends": {"pushed_out": "board orders", "fought_over": "board orders", "exits": "board orders",
             "behind": "board orders outs"},
    "gamelogs": {"game_behind": "chart pieces value", "game_text": "game", "read_game": "chart pieces value"},
    "sound": {"sound_error": "board player value"},
    "bars": {"bars": "board own place", "cut_pairs": "board bar"},
    "matching": {"matched": "cutters backs pairs"},
    "surety": {"harm": "board bar", "chain": "board own place", "sure": "board own place", "shut": "board own field"},
    "covers": {"least_cover": "cutters backs pairs"},
    "breaking": {"paper": "board own place", "paper_error": "board own place value"},
    "helping": {"least_backs": "board own place"},
    "hidden": {"ways": "board told seen", "known": "board told seen"},
    "plans": {"plan": "board player wishes", "sure_of": "board own wishes"},
}
METHODS = {
    Game: {"go_on": "orders", "withdraw": "outs", "build": "news", "undo": "", "wanted": "player"},
    Shell: {"say": "line"},
    Table: {"hand_in": "player thing", "take_back": "player", "close": "", "view": "player"},
}
ATTRIBUTES = ("board", "phase", "year", "season", "holders", "winner", "orders", "log")
ERRORS = ("OrderError", "Unfit", "BadText", "BadBoard", "BadOrders", "TooMany", "NotNow", "NothingToUndo",
          "TooManyEdits", "BadLog")


def defined_in(name):
    tree = ast.parse((FOLDER / f"{name}.py").read_text())
    return [node.name for node in tree.body if isinstance(node, (ast.FunctionDef, ast.ClassDef))]


class Interface(unittest.TestCase):
    def test_functions_stand_in_their_files(self):
        for name, functions in FUNCTIONS.items():
            for function in functions:
                self.assertEqual(1, defined_in(name).count(function), function)

    def test_functions_take_their_arguments(self):
        for name, functions in FUNCTIONS.items():
            module = importlib.import_module(f"whateverothers.{name}")
            for function, arguments in functions.items():
                taken = inspect.signature(getattr(module, function)).parameters
                self.assertEqual(arguments.split(), list(taken))
                self.assertEqual({inspect.Parameter.POSITIONAL_OR_KEYWORD}, {item.kind for item in taken.values()})

    def test_classes_stand_in_their_files(self):
        for name, class_name, arguments in (("games", "Game", "chart pieces"), ("shells", "Shell", ""),
                                            ("seats", "Table", "chart pieces")):
            self.assertEqual(1, defined_in(name).count(class_name))
            made = getattr(importlib.import_module(f"whateverothers.{name}"), class_name)
            self.assertEqual(arguments.split(), list(inspect.signature(made).parameters))

    def test_methods_stand_in_their_classes(self):
        for made, methods in METHODS.items():
            for name, arguments in methods.items():
                self.assertIn(name, vars(made))
                self.assertEqual(["self", *arguments.split()], list(inspect.signature(vars(made)[name]).parameters))

    def test_attributes_are_set_at_first(self):
        self.assertLessEqual(set(ATTRIBUTES), set(vars(Game((1, (), ()), ()))))
        self.assertIn("journal", vars(Table((1, (), ()), ())))

    def test_errors_stand_in_their_file(self):
        self.assertEqual(list(ERRORS), defined_in("errors"))


if __name__ == "__main__":
    unittest.main()
