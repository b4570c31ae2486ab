"""Those rules of the language that a look at the files can tell: imports, sizes, signs, names."""
import ast
import builtins
import pathlib
import unittest

FOLDER = pathlib.Path(__file__).resolve().parent.parent / "whateverothers"
LIBRARY = {"heapq": {"heappush", "heappop", "heapify", "heapreplace", "heappushpop"},
           "math": {"gcd", "lcm", "isqrt", "comb", "perm", "factorial"},
           "itertools": {"product", "combinations", "permutations", "chain", "accumulate", "pairwise", "islice",
                         "zip_longest"},
           "collections": {"defaultdict", "deque"}}
BUILTINS = set("""len range enumerate zip min max sum abs sorted reversed int str bool list tuple dict set isinstance
    ord repr any all divmod pow iter next map type super Exception ValueError TypeError KeyError IndexError LookupError
    ZeroDivisionError ArithmeticError OverflowError RuntimeError NotImplementedError NotImplemented""".split())
METHODS = set("""append clear copy count endswith extend find get index insert isalnum isalpha isdigit islower isspace
    isupper items join keys ljust lower lstrip partition pop remove replace reverse rfind rjust rpartition rsplit rstrip
    setdefault split splitlines startswith strip update upper values zfill bit_length title capitalize swapcase casefold
    center expandtabs removeprefix removesuffix rindex isascii isdecimal isnumeric istitle isidentifier isprintable
    """.split())
BARRED = (ast.AsyncFunctionDef, ast.Await, ast.Import, ast.Div)


def files():
    return sorted(FOLDER.glob("*.py"))


def trees():
    for path in files():
        yield path, ast.parse(path.read_text())


class Files(unittest.TestCase):
    def test_the_folder_holds_nothing_else(self):
        kept = [path for path in FOLDER.iterdir() if path.name != "__pycache__"]
        self.assertEqual(files(), sorted(kept))

    def test_signs_and_sizes(self):
        for path in files():
            text = path.read_text()
            with self.subTest(path.name):
                self.assertTrue(all(sign == "\n" or " " <= sign <= "~" for sign in text))
                self.assertLess(len(text.split("\n")), 400)
                self.assertLessEqual(max(map(len, text.split("\n"))), 120)

    def test_functions_have_forty_lines_at_most(self):
        for path, tree in trees():
            for node in ast.walk(tree):
                if isinstance(node, ast.FunctionDef):
                    self.assertLessEqual(node.end_lineno - node.lineno + 1, 40, f"{path.name} {node.name}")


class Words(unittest.TestCase):
    def test_imports(self):
        for path, tree in trees():
            for node in ast.walk(tree):
                if isinstance(node, ast.ImportFrom):
                    self.check_import(path, tree, node)

    def check_import(self, path, tree, node):
        self.assertIn(node, tree.body, path.name)
        self.assertEqual(0, node.level)
        names = {alias.name for alias in node.names}
        self.assertEqual({None}, {alias.asname for alias in node.names})
        if node.module in LIBRARY:
            self.assertLessEqual(names, LIBRARY[node.module])
            return
        package, name = node.module.split(".")
        self.assertEqual("whateverothers", package)
        self.assertLessEqual(names, self.bound_in(FOLDER / f"{name}.py"))

    def bound_in(self, path):
        """The names that a file itself defines."""
        bound = set()
        for node in ast.parse(path.read_text()).body:
            if isinstance(node, (ast.FunctionDef, ast.ClassDef)):
                bound.add(node.name)
            if isinstance(node, ast.Assign):
                bound |= {target.id for target in node.targets}
        return bound

    def test_imports_lead_in_no_circle(self):
        uses = {path.stem: {node.module.split(".")[1] for node in tree.body
                            if isinstance(node, ast.ImportFrom) and node.module.startswith("whateverothers.")}
                for path, tree in trees()}
        while uses:
            free = [name for name, used in uses.items() if not used & set(uses)]
            self.assertTrue(free, uses)
            for name in free:
                del uses[name]

    def test_statements_and_expressions(self):
        for path, tree in trees():
            for node in ast.walk(tree):
                self.assertNotIsInstance(node, BARRED, path.name)
                if isinstance(node, ast.Constant):
                    self.assertNotIsInstance(node.value, (float, complex), path.name)

    def test_methods_are_own_ones_or_plain_ones_of_builtin_values(self):
        own = {item.name for _, tree in trees() for node in tree.body if isinstance(node, ast.ClassDef)
               for item in node.body if isinstance(item, ast.FunctionDef)}
        for path, tree in trees():
            for node in ast.walk(tree):
                if isinstance(node, ast.Call) and isinstance(node.func, ast.Attribute):
                    self.assertIn(node.func.attr, METHODS | own, path.name)

    def test_no_name_is_a_method_and_an_attribute(self):
        classes = [node for _, tree in trees() for node in tree.body if isinstance(node, ast.ClassDef)]
        methods = {item.name for node in classes for item in node.body if isinstance(item, ast.FunctionDef)}
        attributes = {item.attr for node in classes for item in ast.walk(node)
                      if isinstance(item, ast.Attribute) and isinstance(item.ctx, ast.Store)}
        self.assertEqual(set(), methods & attributes)

    def test_is_stands_beside_none_true_and_false_alone(self):
        for path, tree in trees():
            for node in ast.walk(tree):
                if isinstance(node, ast.Compare) and isinstance(node.ops[0], (ast.Is, ast.IsNot)):
                    self.assertIsInstance(node.comparators[0], ast.Constant, path.name)

    def test_names_are_bound_once_and_are_no_builtins(self):
        # Interactive runs, doctest among them, leave a name "_" behind there.
        known = set(dir(builtins)) - {"_"}
        for path, tree in trees():
            imported = [alias.name for node in tree.body if isinstance(node, ast.ImportFrom) for alias in node.names]
            defined = [node.name for node in tree.body if isinstance(node, (ast.FunctionDef, ast.ClassDef))]
            self.assertEqual(len(imported + defined), len(set(imported + defined)), path.name)
            for node in ast.walk(tree):
                self.check_name(path, node, known, set(imported + defined))

    def check_name(self, path, node, known, taken):
        if isinstance(node, ast.arg):
            self.assertNotIn(node.arg, known | taken, path.name)
        if isinstance(node, ast.Name) and isinstance(node.ctx, ast.Store):
            self.assertNotIn(node.id, known | taken, path.name)
        if isinstance(node, ast.Name) and node.id in known:
            self.assertIn(node.id, BUILTINS, path.name)


if __name__ == "__main__":
    unittest.main()
