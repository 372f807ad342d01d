"""Models for the tests, ways to change one place of a model, and callers of sites."""

from vancourier.forms import check_model
from vancourier.plain import Plain
from vancourier.sites import Site

SKIP = ("skip",)
ONE = ("int", 1)
N = ("field", "n")
ADD = ("set", "n", ("add", N, ("arg",)))

HANDLER = (
    ("set", "count", ("add", ("field", "count"), ("arg",))),
    ("send", ("add", ("self",), ONE), ("mod", ("now",), 7), "tell", ("field", "count")),
    ("if", ("less", ("field", "count"), ("int", 5)),
     (SKIP, ("set", "debt", ("not", ("field", "debt")))),
     (("send", ("int", 0), ("int", 3), "nobody", ("div", ("arg",), 2)),)),
)

GOOD = (
    (
        ("box", (("count", -5, 9), ("debt", 0, 7)), (("tell", HANDLER), ("rest", (SKIP,)))),
        ("wall", (("count", 3, 3),), ()),
    ),
    ("box", "wall", "box"),
    ((0, 0, "tell", 5), (50, 2, "nobody", -999)),
    50,
)


def with_program(program, objects=("box",)):
    """Returns a model whose kind has a field `n` and runs the program at `go`."""
    return ((("box", (("n", -1000000, 1000000),), (("go", program),)),), objects, (), 50)


def with_value(e):
    """Returns a model whose handler `go` sets the field `n` to the expression."""
    return with_program((("set", "n", e),))


def paths(value):
    """Returns the paths to all places of a nested tuple, the whole one included."""
    found = [()]
    if isinstance(value, tuple):
        for index, part in enumerate(value):
            found += [(index,) + path for path in paths(part)]
    return found


def part_at(value, path):
    for index in path:
        value = value[index]
    return value


def changed(value, path, new):
    """Returns a copy of a nested tuple that has another value at the path."""
    if not path:
        return new
    index = path[0]
    return value[:index] + (changed(value[index], path[1:], new),) + value[index + 1:]


def nested(depth):
    """Returns an expression whose innermost part lies `depth` deep, itself being 1 deep."""
    e = ONE
    for _ in range(depth - 1):
        e = ("not", e)
    return e


def nested_if(depth, program):
    """Returns a program: `depth` times an `if` in an `if`, and innermost the program."""
    for turn in range(depth):
        program = (("if", ONE, program, (SKIP,)) if turn % 2 else ("if", ONE, (SKIP,), program),)
    return program


def random_model(chance):
    """Returns a model of 2 to 6 objects that exchange many events, of which at most 200 are processed."""
    while True:
        many = chance.randint(2, 6)
        handlers = (("go", random_program(chance)), ("tell", random_program(chance)))
        start = tuple(
            (chance.randint(0, 4), chance.randrange(many), chance.choice(("go", "tell")), chance.randint(0, 9))
            for _ in range(chance.randint(2, 5))
        )
        model = ((("box", (("n", 0, 9), ("m", -5, 5)), handlers),), ("box",) * many, start, chance.randint(10, 40))
        if few_steps(check_model(model), 200):
            return model


def random_program(chance):
    """Returns a program that sets both fields and sends one event on one way through it, and two on the other."""
    n, m, arg, now = ("field", "n"), ("field", "m"), ("arg",), ("now",)
    parts = (n, m, arg, now, ("self",), ONE)
    words = ("go", "tell", "nobody")

    def pair():
        return (chance.choice(("add", "sub", "max", "mul")), chance.choice(parts), chance.choice(parts))

    def send():
        delay = ("add", ONE, ("mod", pair(), chance.randint(1, 6)))
        return ("send", ("add", chance.choice(parts), chance.choice(parts)), delay, chance.choice(words), pair())

    change = ("set", chance.choice("nm"), ("sub", ("mod", pair(), chance.randint(2, 9)), ("int", chance.randint(0, 4))))
    more = (("set", "m", arg), send()) if chance.random() < 0.5 else (SKIP,)
    return (change, send(), ("if", ("mod", pair(), chance.randint(2, 4)), (SKIP,), more))


def few_steps(model, most):
    """Tells whether the plain simulation of a model has at most so many steps, and more than 10."""
    plain = Plain(model)
    for _ in range(most + 1):
        if plain.step() is None:
            return len(plain.history()) > 10
    return False


# `go` adds its argument and sends it on, and a second event while the sum is odd; `back` sends the sum;
# `quiet` changes the state and sends nothing; `twice` sends two events that differ in their counts only.
GO = (ADD, ("send", ONE, ("int", 3), "go", ("arg",)),
      ("if", ("mod", N, 2), (("send", ("int", 0), ("int", 2), "back", N),), (SKIP,)))
BACK = (("send", ONE, ONE, "go", N),)
QUIET = (("set", "n", ("mul", N, ("arg",))),)
TWICE = (("send", ONE, ONE, "same", ("int", 7)), ("send", ONE, ONE, "same", ("int", 7)))
SITE_KIND = ("box", (("n", -50, 50),), (("go", GO), ("back", BACK), ("quiet", QUIET), ("twice", TWICE)))
SITE_MODEL = check_model(((SITE_KIND,), ("box", "box"), (), 100))


def event(time, name="go", arg=1, sender=-1, count=0):
    return (time, 0, sender, count, name, arg)


def eager(interval=1):
    return Site(SITE_MODEL, 0, interval, False)


def lazy(interval=1):
    return Site(SITE_MODEL, 0, interval, True)


def view(site):
    return (site.least(), site.state(), site.count(), site.processed(), site.waiting(), site.kept())


class Marks:
    """A site's caller, which gives each sent event the mark (5, number), counted from 0."""

    def __init__(self, site):
        self.site = site
        self.made = 0

    def process(self):
        """Processes an instance and returns the sent events."""
        events = self.site.process()
        self.site.note([(5, self.made + index) for index in range(len(events))])
        self.made += len(events)
        return events

    def process_all(self):
        """Processes all waiting instances and returns the list of what each one sent."""
        return [self.process() for _ in self.site.waiting()]

    def insert_all(self, *events):
        """Inserts events with the marks (9, 0), (9, 1) and so on."""
        for number, each in enumerate(events):
            self.site.insert((9, number), each)


def filled(site, *events):
    """Returns the caller of a site that has processed the events, whose marks are (9, 0), (9, 1) and so on."""
    marks = Marks(site)
    marks.insert_all(*events)
    marks.process_all()
    return marks
