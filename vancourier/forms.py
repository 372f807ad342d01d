"""The forms of models and placings (points 100 to 105 and 140)."""

from vancourier.errors import BadModel

LIMIT = 1_000_000_000
MOST_DELAY = 20
MOST_NODES = 80
MOST_DEPTH = 8
MOST_SENDS = 4

MOST_LETTERS = 12
MOST_KINDS = 4
MOST_FIELDS = 4
MOST_HANDLERS = 4
MOST_OBJECTS = 8
MOST_STARTS = 12
MOST_PROCESSORS = 8
MOST_END = 1000
MOST_RANGE = 1_000_000
MOST_NUMBER = 999


def check_model(value):
    """Returns the value if it is a model, otherwise raises BadModel."""
    require_tuple(value, 4, 4)
    kinds, objects, start, end = value
    check_kinds(kinds)
    check_objects(objects, kinds)
    require(is_integer(end, 0, MOST_END))
    check_start(start, len(objects), end)
    return value


def check_placing(model, placing):
    """Returns the number of processors of the placing of a model's objects."""
    objects = model[1]
    require_tuple(placing, len(objects), len(objects))
    for processor in placing:
        require(is_integer(processor, 0, MOST_PROCESSORS - 1))
    return max(placing) + 1


def first_state(model, number):
    """Returns the state of an object before its first event."""
    fields = kind_of(model, number)[1]
    return tuple([nearest(0, low, high) for name, low, high in fields])


def kind_of(model, number):
    """Returns the kind of the object with the number."""
    name = model[1][number]
    return [kind for kind in model[0] if kind[0] == name][0]


def nearest(value, low, high):
    """Returns the integer from low to high that is nearest to the value."""
    return max(low, min(high, value))


def require(holds):
    if not holds:
        raise BadModel()


def require_tuple(value, least, most):
    require(isinstance(value, tuple) and least <= len(value) <= most)


def require_different_names(names):
    # Only strings get into the set: other values may have no hash.
    for name in names:
        require(is_name(name))
    require(len(set(names)) == len(names))


def is_name(value):
    return isinstance(value, str) and 1 <= len(value) <= MOST_LETTERS and all("a" <= sign <= "z" for sign in value)


def is_integer(value, low, high):
    return isinstance(value, int) and not isinstance(value, bool) and low <= value <= high


def check_kinds(kinds):
    require_tuple(kinds, 1, MOST_KINDS)
    for kind in kinds:
        check_kind(kind)
    require_different_names([name for name, fields, handlers in kinds])


def check_kind(kind):
    require_tuple(kind, 3, 3)
    fields = kind[1]
    handlers = kind[2]
    check_fields(fields)
    check_handlers(handlers, [name for name, low, high in fields])


def check_fields(fields):
    require_tuple(fields, 1, MOST_FIELDS)
    for field in fields:
        check_field(field)
    require_different_names([name for name, low, high in fields])


def check_field(field):
    require_tuple(field, 3, 3)
    low = field[1]
    high = field[2]
    require(is_integer(low, -MOST_RANGE, MOST_RANGE))
    require(is_integer(high, low, MOST_RANGE))


def check_handlers(handlers, fields):
    require_tuple(handlers, 0, MOST_HANDLERS)
    for handler in handlers:
        require_tuple(handler, 2, 2)
        check_program(handler[1], fields)
    require_different_names([name for name, program in handlers])


def check_program(program, fields):
    sends = ProgramCheck(fields).program(program, 1)
    require(sends <= MOST_SENDS)


def check_objects(objects, kinds):
    names = [kind[0] for kind in kinds]
    require_tuple(objects, 1, MOST_OBJECTS)
    for name in objects:
        require(name in names)


def check_start(start, many, end):
    require_tuple(start, 0, MOST_STARTS)
    for event in start:
        require_tuple(event, 4, 4)
        time, target, name, arg = event
        require(is_integer(time, 0, end))
        require(is_integer(target, 0, many - 1))
        require(is_name(name))
        require(is_integer(arg, -MOST_NUMBER, MOST_NUMBER))


class ProgramCheck:
    """The check of the program of one handler, whose kind has these fields."""

    def __init__(self, fields):
        self.fields = fields
        self.nodes = 0

    def program(self, value, depth):
        """Checks a program and returns the most sends on a way through it."""
        require(isinstance(value, tuple) and len(value) > 0)
        sends = 0
        for statement in value:
            sends += self.statement(statement, depth)
        return sends

    def statement(self, value, depth):
        """Checks a statement and returns the most sends on a way through it."""
        self.enter(value, depth)
        match value:
            case ("set", name, e):
                require(name in self.fields)
                self.expression(e, depth + 1)
                return 0
            case ("send", target, delay, name, arg):
                require(is_name(name))
                self.expression(target, depth + 1)
                self.expression(delay, depth + 1)
                self.expression(arg, depth + 1)
                return 1
            case ("if", e, first, second):
                self.expression(e, depth + 1)
                return max(self.program(first, depth + 1), self.program(second, depth + 1))
            case ("skip",):
                return 0
            case _:
                raise BadModel()

    def expression(self, value, depth):
        self.enter(value, depth)
        match value:
            case ("int", n):
                require(is_integer(n, -MOST_NUMBER, MOST_NUMBER))
            case ("field", name):
                require(name in self.fields)
            case ("arg" | "now" | "self",):
                pass
            case ("not", a):
                self.expression(a, depth + 1)
            case ("div" | "mod", a, n):
                self.expression(a, depth + 1)
                require(is_integer(n, 1, MOST_NUMBER))
            case ("add" | "sub" | "mul" | "min" | "max" | "less" | "same" | "both" | "either", a, b):
                self.expression(a, depth + 1)
                self.expression(b, depth + 1)
            case _:
                raise BadModel()

    def enter(self, value, depth):
        # The limits are tested on the way in, so that a huge program ends the check early.
        self.nodes += 1
        require(self.nodes <= MOST_NODES and depth <= MOST_DEPTH)
        require(isinstance(value, tuple))
