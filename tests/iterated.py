"""A look at a file's tree by rule L23: ranges, zips, enumerates, reversed and views are iterated where they stand."""
import ast

MAKERS = {"range", "zip", "enumerate", "reversed"}
VIEWS = {"items", "keys", "values"}
TAKERS = {"list", "tuple", "dict", "sorted", "sum", "any", "all", "enumerate", "zip", "bytes"}
TAKERS_OF_KEPT = {"list", "tuple", "sorted", "sum", "any", "all", "len"}
INNER = (ast.FunctionDef, ast.AsyncFunctionDef, ast.Lambda, ast.ClassDef, ast.Module, ast.GeneratorExp)


def astray(tree):
    """The row and kind of each range, zip, enumerate, reversed and view that stands elsewhere than L23 tells.

    Of what L23 lets a variable keep, only ranges pass here: for all others it would have to be known, too, what changes
    between their assignment and the end of their iteration. What L2 and L8 let go over them (deques, products, chains,
    iter) does not pass, either. The package needs none of this.
    """
    above = {child: node for node in ast.walk(tree) for child in ast.iter_child_nodes(node)}
    found = [(node.lineno, kind_of(node)) for node in ast.walk(tree) if kind_of(node) is not None
             and not is_at_once(node, above) and not is_kept_range(node, above)]
    return sorted(found)


def kind_of(node):
    """The word by which node makes something to iterate over; None if it makes none."""
    if not isinstance(node, ast.Call):
        return None
    if isinstance(node.func, ast.Name) and node.func.id in MAKERS:
        return node.func.id
    if isinstance(node.func, ast.Attribute) and node.func.attr in VIEWS:
        return node.func.attr
    return None


def is_at_once(node, above):
    """Whether this call is iterated on the spot."""
    parent, kind = above[node], kind_of(node)
    if isinstance(parent, ast.Call):
        return is_taken(parent, node, kind)
    return is_looped(parent, node) or (kind in {"range", "keys"} and is_searched(parent, node))


def is_taken(call, node, kind):
    """Whether call, beside whose function node stands, iterates over node, which is of this kind."""
    if isinstance(call.func, ast.Attribute):
        return call.func.attr == "join" and isinstance(call.func.value, ast.Constant) and node in call.args
    if not isinstance(call.func, ast.Name):
        return False
    if call.func.id == "len":
        return kind in {"range", "items"}
    if call.func.id == "reversed":
        return kind == "range"
    return is_first_in(call, node, TAKERS)


def is_first_in(call, node, takers):
    if call.func.id in {"min", "max"}:
        return call.args == [node] and all(keyword.arg == "default" for keyword in call.keywords)
    return call.func.id in takers and call.args[0] is node


def is_looped(parent, node):
    return isinstance(parent, (ast.For, ast.comprehension)) and parent.iter is node


def is_searched(parent, node):
    """Whether parent tests if something is in node."""
    return (isinstance(parent, ast.Compare) and parent.comparators == [node]
            and isinstance(parent.ops[0], (ast.In, ast.NotIn)))


def is_kept_range(node, above):
    """Whether node is a range that a plain variable of a function keeps, assigned once and used as L23 tells."""
    statement, function = above[node], scope_of(node, above)
    if kind_of(node) != "range" or not isinstance(statement, ast.Assign) or not isinstance(function, ast.FunctionDef):
        return False
    if not all(isinstance(target, ast.Name) for target in statement.targets) or is_of_an_operator(function):
        return False
    name = statement.targets[0].id
    reads = [item for item in ast.walk(function) if isinstance(item, ast.Name) and item.id == name
             and isinstance(item.ctx, ast.Load)]
    return (len(statement.targets) == 1 and sum(binds(item, name) for item in ast.walk(function)) == 1
            and all(scope_of(item, above) is function and is_use_of_range(item, above) for item in reads))


def scope_of(node, above):
    """The innermost function, lambda, class, generator expression or file around node."""
    node = above[node]
    while not isinstance(node, INNER):
        node = above[node]
    return node


def is_of_an_operator(function):
    return function.name.startswith("__") and function.name != "__init__"


def binds(node, name):
    """Whether node gives this name a meaning."""
    if isinstance(node, ast.Name):
        return node.id == name and not isinstance(node.ctx, ast.Load)
    if isinstance(node, (ast.Global, ast.Nonlocal)):
        return name in node.names
    if isinstance(node, ast.arg):
        return node.arg == name
    return isinstance(node, ast.ExceptHandler) and node.name == name


def is_use_of_range(node, above):
    """Whether this read of a variable that keeps a range is one that L23 names."""
    parent = above[node]
    if isinstance(parent, ast.Subscript):
        return parent.value is node and isinstance(parent.ctx, ast.Load) and not isinstance(parent.slice, ast.Slice)
    if not isinstance(parent, ast.Call):
        return is_looped(parent, node) or is_searched(parent, node)
    if kind_of(parent) in {"enumerate", "reversed", "zip"}:
        return is_at_once(parent, above)
    return isinstance(parent.func, ast.Name) and is_first_in(parent, node, TAKERS_OF_KEPT)
