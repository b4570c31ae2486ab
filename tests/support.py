"""What several tests need: calls made in all ways, values of all kinds, examples of the document."""
import copy
import itertools


def shown(value):
    """A string that is alike only for alike values of alike kinds (True is not 1 here)."""
    return repr(value)


def outcome(function, *args, **named):
    """What a call comes to: its value, or the class of its error and the error's fields."""
    try:
        return ("returned", shown(function(*args, **named)))
    except ValueError as error:
        return ("raised", error.__class__.__name__, shown(vars(error)))


def call_alike(case, function, **named):
    """Calls by place and by names, twice each; checks that all is alike and nothing handed in is changed."""
    kept = copy.deepcopy(named)
    before = shown(named)
    first = outcome(function, *named.values())
    case.assertEqual(first, outcome(function, **named))
    case.assertEqual(first, outcome(function, **dict(reversed(list(named.items())))))
    case.assertEqual(first, outcome(function, *kept.values()))
    case.assertEqual(before, shown(named))
    return first


def returns(case, expected, function, **named):
    case.assertEqual(("returned", shown(expected)), call_alike(case, function, **named))


def raises(case, name, function, **named):
    case.assertEqual(("raised", name, "{}"), call_alike(case, function, **named))


def is_plain(value):
    """Whether value can change no more: tuples, strings, numbers, bools and None throughout."""
    if isinstance(value, tuple):
        return all(is_plain(item) for item in value)
    return value is None or isinstance(value, (int, str))


def nested(depth, inner=()):
    for _ in range(depth):
        inner = (inner,)
    return inner


def any_values():
    """Values of all the kinds that may be handed in as value."""
    return [
        None, True, False, 0, 1, 2, -1, 5, 24, 25, 10 ** 399, -(10 ** 399),
        "", "0", "1", "a", "form", "stay", "go", "back", "1:;", "\n", "x" * 20000, "0" * 20000, "9" * 20000,
        (), (0,), (0, 0), (0, 1), (0, 1, 2), (1, (), ()), ((), ()), (True, False), (None, None, None),
        ("stay",), ("go", 1), ("back", 1, 1), ((0, 0),), nested(19), tuple(range(3999)), ((1,),) * 1900,
        [], [0], [0, 1], [5, (), ()], [[0, 1]], [None] * 3999, ["stay"],
        {}, {0: 1}, {"many": 5, (0, 1): [2]}, {None: {True: ()}}, {(0, (1, 2)): "x"},
    ]


def exchanged(value, others):
    """All copies of nested tuples in which one part, however deep, is exchanged for one of others."""
    yield from others
    if isinstance(value, tuple):
        yield list(value)
        for at, item in enumerate(value):
            yield value[:at] + value[at + 1:]
            yield value[:at] + (item,) + value[at:]
            for other in exchanged(item, others):
                yield value[:at] + (other,) + value[at + 1:]


def spoiled(text, signs):
    """All texts that come of text by a sign left out, put in, or exchanged, or two signs turned about."""
    for at in range(len(text) + 1):
        for sign in signs:
            yield text[:at] + sign + text[at:]
    for at in range(len(text)):
        yield text[:at] + text[at + 1:]
        yield text[:at] + text[at + 1:at + 2] + text[at] + text[at + 2:]
        for sign in signs:
            yield text[:at] + sign + text[at + 1:]


def subsets(items):
    items = list(items)
    for many in range(len(items) + 1):
        yield from itertools.combinations(items, many)


def run_examples(case, text):
    """Runs lines as they are written in the document and compares what they show."""
    space = {}
    lines = [line.strip() for line in text.strip().split("\n")]
    for at, line in enumerate(lines):
        if not line.startswith(">>> "):
            continue
        source = line[len(">>> "):]
        told = [item for item in lines[at + 1:at + 2] if not item.startswith(">>> ")]
        with case.subTest(source):
            case.assertEqual(told, example_shows(source, space))


def example_shows(source, space):
    try:
        code = compile(source, "example", "eval")
    except SyntaxError:
        exec(source, space)
        return []
    try:
        return [repr(eval(code, space))]
    except ValueError as error:
        fields = ", ".join(repr(field) for field in vars(error).values())
        return [f"raises {error.__class__.__name__}({fields})"]
