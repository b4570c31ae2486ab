"""Those rules of the language that a look at the files can tell: imports, sizes, signs, names, ranges and views."""
import ast
import builtins
import pathlib
import unittest

from tests.iterated import astray

FOLDER = pathlib.Path(__file__).resolve().parent.parent / "whateverothers"
LIBRARY = {"heapq": {"heappush", "heappop", "heapify", "heapreplace", "heappushpop"},
           "math": {"gcd", "lcm", "isqrt", "comb", "perm", "factorial"},
           "itertools": {"product", "combinations", "permutations", "chain", "accumulate", "pairwise", "islice",
                         "zip_longest"},
           "collections": {"defaultdict", "deque"}}
BUILTINS = set("""len range enumerate zip min max sum abs sorted reversed int str bool list tuple dict set isinstance
    ord repr any all divmod pow iter next map type super Exception ValueError TypeError KeyError IndexError LookupError
    ZeroDivisionError ArithmeticError OverflowError RuntimeError NotImplementedError NotImplemented""".split())
METHODS = set("""append clear copy count endswith extend find get index insert isalnum isalpha isdigit islower isspace
    isupper items join keys ljust lower lstrip partition pop remove replace reverse rfind rjust rpartition rsplit rstrip
    setdefault split splitlines startswith strip update upper values zfill bit_length title capitalize swapcase casefold
    center expandtabs removeprefix removesuffix rindex isascii isdecimal isnumeric istitle isidentifier isprintable
    """.split())
BARRED = (ast.AsyncFunctionDef, ast.Await, ast.Import, ast.Div)


def files():
    return sorted(FOLDER.glob("*.py"))


def trees():
    for path in files():
        yield path, ast.parse(path.read_text())


class Files(unittest.TestCase):
    def test_the_folder_holds_nothing_else(self):
        kept = [path for path in FOLDER.iterdir() if path.name != "__pycache__"]
        self.assertEqual(files(), sorted(kept))

    def test_signs_and_sizes(self):
        for path in files():
            text = path.read_text()
            with self.subTest(path.name):
                self.assertTrue(all(sign == "\n" or " " <= sign <= "~" for sign in text))
                self.assertLess(len(text.split("\n")), 400)
                self.assertLessEqual(max(map(len, text.split("\n"))), 120)

    def test_functions_have_forty_lines_at_most(self):
        for path, tree in trees():
            for node in ast.walk(tree):
                if isinstance(node, ast.FunctionDef):
                    self.assertLessEqual(node.end_lineno - node.lineno + 1, 40, f"{path.name} {node.name}")


class Words(unittest.TestCase):
    def test_imports(self):
        for path, tree in trees():
            for node in ast.walk(tree):
                if isinstance(node, ast.ImportFrom):
                    self.check_import(path, tree, node)

    def check_import(self, path, tree, node):
        self.assertIn(node, tree.body, path.name)
        self.assertEqual(0, node.level)
        names = {alias.name for alias in node.names}
        self.assertEqual({None}, {alias.asname for alias in node.names})
        if node.module in LIBRARY:
            self.assertLessEqual(names, LIBRARY[node.module])
            return
        package, name = node.module.split(".")
        self.assertEqual("whateverothers", package)
        self.assertLessEqual(names, self.bound_in(FOLDER / f"{name}.py"))

    def bound_in(self, path):
        """The names that a file itself defines."""
        bound = set()
        for node in ast.parse(path.read_text()).body:
            if isinstance(node, (ast.FunctionDef, ast.ClassDef)):
                bound.add(node.name)
            if isinstance(node, ast.Assign):
                bound |= {target.id for target in node.targets}
        return bound

    def test_imports_lead_in_no_circle(self):
        uses = {path.stem: {node.module.split(".")[1] for node in tree.body
                            if isinstance(node, ast.ImportFrom) and node.module.startswith("whateverothers.")}
                for path, tree in trees()}
        while uses:
            free = [name for name, used in uses.items() if not used & set(uses)]
            self.assertTrue(free, uses)
            for name in free:
                del uses[name]

    def test_statements_and_expressions(self):
        for path, tree in trees():
            for node in ast.walk(tree):
                self.assertNotIsInstance(node, BARRED, path.name)
                if isinstance(node, ast.Constant):
                    self.assertNotIsInstance(node.value, (float, complex), path.name)

    def test_methods_are_own_ones_or_plain_ones_of_builtin_values(self):
        own = {item.name for _, tree in trees() for node in tree.body if isinstance(node, ast.ClassDef)
               for item in node.body if isinstance(item, ast.FunctionDef)}
        for path, tree in trees():
            for node in ast.walk(tree):
                if isinstance(node, ast.Call) and isinstance(node.func, ast.Attribute):
                    self.assertIn(node.func.attr, METHODS | own, path.name)

    def test_no_name_is_a_method_and_an_attribute(self):
        classes = [node for _, tree in trees() for node in tree.body if isinstance(node, ast.ClassDef)]
        methods = {item.name for node in classes for item in node.body if isinstance(item, ast.FunctionDef)}
        attributes = {item.attr for node in classes for item in ast.walk(node)
                      if isinstance(item, ast.Attribute) and isinstance(item.ctx, ast.Store)}
        self.assertEqual(set(), methods & attributes)

    def test_is_stands_beside_none_true_and_false_alone(self):
        for path, tree in trees():
            for node in ast.walk(tree):
                if isinstance(node, ast.Compare) and isinstance(node.ops[0], (ast.Is, ast.IsNot)):
                    self.assertIsInstance(node.comparators[0], ast.Constant, path.name)

    def test_names_are_bound_once_and_are_no_builtins(self):
        # Interactive runs, doctest among them, leave a name "_" behind there.
        known = set(dir(builtins)) - {"_"}
        for path, tree in trees():
            imported = [alias.name for node in tree.body if isinstance(node, ast.ImportFrom) for alias in node.names]
            defined = [node.name for node in tree.body if isinstance(node, (ast.FunctionDef, ast.ClassDef))]
            self.assertEqual(len(imported + defined), len(set(imported + defined)), path.name)
            for node in ast.walk(tree):
                self.check_name(path, node, known, set(imported + defined))

    def check_name(self, path, node, known, taken):
        if isinstance(node, ast.arg):
            self.assertNotIn(node.arg, known | taken, path.name)
        if isinstance(node, ast.Name) and isinstance(node.ctx, ast.Store):
            self.assertNotIn(node.id, known | taken, path.name)
        if isinstance(node, ast.Name) and node.id in known:
            self.assertIn(node.id, BUILTINS, path.name)


class Iterated(unittest.TestCase):
    """Rule L23, and that the look for it finds what it forbids and lets by what it allows."""

    def test_no_range_zip_or_view_of_the_package_is_passed_on_or_kept_otherwise(self):
        for path, tree in trees():
            self.assertEqual([], astray(tree), path.name)

    def let_by(self, body):
        self.assertEqual([], self.found(body), body)

    def refused(self, kind, body):
        self.assertEqual([kind], self.found(body), body)

    def found(self, body):
        rows = "".join([f"    {row}\n" for row in body.split("\n")])
        return [kind for _, kind in astray(ast.parse(f"def look(xs, ys, d, box):\n{rows}"))]

    def test_the_row_is_told(self):
        row = "return _marks(game.board, range(len(game.board[1])), settled(game.board, read_orders(game.board, text)))"
        self.assertEqual([(3, "range")], astray(ast.parse(f"def _settle(game, text):\n    low = 0\n    {row}\n")))

    def test_what_is_iterated_at_once_is_let_by(self):
        for maker in ("range(3)", "zip(xs, ys)", "enumerate(xs)", "reversed(xs)", "d.items()", "d.keys()", "d.values()"):
            for body in ("for x in {}:\n    pass", "return [x for x in {}]", "return {{x: 1 for y in xs for x in {}}}",
                         "return list({})", "return tuple({})", "return dict({})", "return sorted({}, reverse=True)",
                         "return sum({})", "return any({})", "return all({})", "return bytes({})", "return min({})",
                         "return max({}, default=0)", "return ', '.join({})", "return mark(list({}), xs)",
                         "for k, x in enumerate({}):\n    pass", "for x, y in zip({}, ys):\n    pass"):
                self.let_by(body.format(maker))

    def test_what_is_passed_on_or_stored_is_refused(self):
        for maker in ("range", "zip", "enumerate", "reversed", "items", "keys", "values"):
            call = f"d.{maker}()" if maker in {"items", "keys", "values"} else f"{maker}(xs)"
            for body in ("return mark({})", "return mark(xs, {})", "mark(xs, places={})", "return box.mark({})",
                         "return {}", "return ({}, xs)", "return [{}]", "return {{1: {}}}", "return xs or {}",
                         "return [*{}]", "mark(*{})", "box.places = {}", "xs[0] = {}", "x, y = {}", "x = y = {}",
                         "x: object = {}", "x = mark({})", "x = {} if xs else ys", "return lambda: {}", "yield {}",
                         "yield from {}", "def mark(x={}):\n    pass", "return set({})", "return {} == xs",
                         "return xs == {}", "return min({}, xs)", "return min({}, key=mark)", "return sorted(xs, key={})",
                         "return box.mark.join({})", "return list(xs, {})", "for x in (xs, {}):\n    pass"):
                self.refused(maker, body.format(call))

    def test_len_reversed_in_and_items_of_what_is_made(self):
        for body in ("return len(range(3))", "return len(d.items())", "return list(reversed(range(3)))",
                     "return 1 in range(3)", "return 1 not in range(3)", "return 1 in d.keys()"):
            self.let_by(body)
        for kind, body in (("zip", "return len(zip(xs, ys))"), ("values", "return len(d.values())"),
                           ("items", "return list(reversed(d.items()))"), ("values", "return 1 in d.values()"),
                           ("zip", "return 1 in zip(xs, ys)"), ("range", "return range(3) in xs"),
                           ("range", "return range(3)[1]"), ("enumerate", "return list(reversed(enumerate(xs)))")):
            self.refused(kind, body)

    def test_a_kept_range_is_let_by_where_it_is_used_as_told(self):
        for use in ("for x in kept:\n    pass", "return [x for x in kept]", "return list(kept)", "return tuple(kept)",
                    "return sorted(kept)", "return sum(kept)", "return min(kept)", "return max(kept, default=0)",
                    "return any(kept)", "return all(kept)", "return len(kept)", "return 1 in kept", "return kept[1]",
                    "return list(enumerate(kept))", "for x in reversed(kept):\n    pass", "yield len(kept)",
                    "return [x for x, y in zip(xs, kept) if y in kept]", "return mark(list(kept))"):
            self.let_by(f"kept = range(3)\n{use}")

    def test_a_kept_range_is_refused_where_it_is_used_otherwise(self):
        for use in ("return kept", "return mark(kept)", "return box.mark(kept)", "mark(places=kept)", "box.places = kept",
                    "return [kept]", "return kept == xs", "return kept[1:]", "if kept:\n    pass", "other = kept",
                    "kept = xs", "for kept in xs:\n    pass", "return [kept for kept in xs]", "del kept", "kept: list",
                    "return lambda: len(kept)", "return any(x for x in kept)", "return mark(*kept)", "return set(kept)",
                    "return zip(xs, kept)", "return enumerate(kept)", "def mark():\n    return len(kept)",
                    "def mark(kept):\n    pass", "def mark():\n    global kept"):
            self.assertIn("range", self.found(f"kept = range(3)\n{use}"), use)

    def test_a_range_is_kept_by_a_plain_variable_of_a_function_alone(self):
        for text in ("KEPT = range(3)\n", "class Box:\n    kept = range(3)\n",
                     "def __len__(self):\n    kept = range(3)\n    return len(kept)\n",
                     "def look(kept):\n    kept = range(3)\n    return len(kept)\n"):
            self.assertEqual(["range"], [kind for _, kind in astray(ast.parse(text))], text)
        self.assertEqual([], astray(ast.parse("def __init__(self):\n    kept = range(3)\n    self.many = len(kept)\n")))

    def test_nothing_else_is_kept(self):
        for kind, call in (("zip", "zip(xs, ys)"), ("enumerate", "enumerate(xs)"), ("reversed", "reversed(xs)"),
                           ("items", "d.items()"), ("keys", "d.keys()"), ("values", "d.values()")):
            self.refused(kind, f"kept = {call}\nreturn list(kept)")


if __name__ == "__main__":
    unittest.main()
