"""Runs examples as the document writes them: a line behind ">>>", and below it what comes of it."""
import ast
import alldeeds.errors


def examples_of(text):
    """The pairs (code, expected) of a text; expected is None where nothing stands below the code."""
    found = []
    for line in text.strip().splitlines():
        if line.startswith(">>> "):
            found.append([line[4:], None])
        else:
            found[-1][1] = line
    return found


def outcome(code, names):
    """What the code returns, or the error that it raises, with its fields."""
    try:
        tree = ast.parse(code)
        if isinstance(tree.body[-1], ast.Expr):
            return ("returns", eval(code, names))
        exec(code, names)
        return ("returns", None)
    except alldeeds.errors.DeedError as error:
        return ("raises", type(error), vars(error))


def expected_outcome(line):
    """What the document says comes of an example."""
    if line is None:
        return ("returns", None)
    if line.startswith("raises "):
        call = ast.parse(line[7:], mode="eval").body
        fields = {word.arg: ast.literal_eval(word.value) for word in call.keywords}
        return ("raises", getattr(alldeeds.errors, call.func.id), fields)
    return ("returns", ast.literal_eval(line))


def check(case, text, names):
    """Runs all examples of a text in their order and compares what comes of them."""
    for code, line in examples_of(text):
        with case.subTest(code=code):
            case.assertEqual(same_kinds(outcome(code, names)), same_kinds(expected_outcome(line)))


def same_kinds(value):
    """The value with the class beside each part, so that True is unlike 1 and a list unlike a tuple."""
    if isinstance(value, (list, tuple)):
        return (type(value).__name__, [same_kinds(part) for part in value])
    if isinstance(value, dict):
        return ("dict", sorted((key, same_kinds(value[key])) for key in value))
    return (type(value).__name__, value)
