"""Models for the tests, and ways to change one place of a model."""

SKIP = ("skip",)
ONE = ("int", 1)

HANDLER = (
    ("set", "count", ("add", ("field", "count"), ("arg",))),
    ("send", ("add", ("self",), ONE), ("mod", ("now",), 7), "tell", ("field", "count")),
    ("if", ("less", ("field", "count"), ("int", 5)),
     (SKIP, ("set", "debt", ("not", ("field", "debt")))),
     (("send", ("int", 0), ("int", 3), "nobody", ("div", ("arg",), 2)),)),
)

GOOD = (
    (
        ("box", (("count", -5, 9), ("debt", 0, 7)), (("tell", HANDLER), ("rest", (SKIP,)))),
        ("wall", (("count", 3, 3),), ()),
    ),
    ("box", "wall", "box"),
    ((0, 0, "tell", 5), (50, 2, "nobody", -999)),
    50,
)


def with_program(program, objects=("box",)):
    """Returns a model whose kind has a field `n` and runs the program at `go`."""
    return ((("box", (("n", -1000000, 1000000),), (("go", program),)),), objects, (), 50)


def with_value(e):
    """Returns a model whose handler `go` sets the field `n` to the expression."""
    return with_program((("set", "n", e),))


def paths(value):
    """Returns the paths to all places of a nested tuple, the whole one included."""
    found = [()]
    if isinstance(value, tuple):
        for index, part in enumerate(value):
            found += [(index,) + path for path in paths(part)]
    return found


def part_at(value, path):
    for index in path:
        value = value[index]
    return value


def changed(value, path, new):
    """Returns a copy of a nested tuple that has another value at the path."""
    if not path:
        return new
    index = path[0]
    return value[:index] + (changed(value[index], path[1:], new),) + value[index + 1:]


def nested(depth):
    """Returns an expression whose innermost part lies `depth` deep, itself being 1 deep."""
    e = ONE
    for _ in range(depth - 1):
        e = ("not", e)
    return e


def nested_if(depth, program):
    """Returns a program: `depth` times an `if` in an `if`, and innermost the program."""
    for turn in range(depth):
        program = (("if", ONE, program, (SKIP,)) if turn % 2 else ("if", ONE, (SKIP,), program),)
    return program
