"""What a handler does to its object, and what it sends (points 101, 102 and 106)."""

from vancourier.forms import LIMIT, MOST_DELAY, MOST_NUMBER, kind_of, nearest


def run_handler(model, number, state, time, name, arg):
    """Runs the handler of an object for an event and returns (state, sends)."""
    kind = kind_of(model, number)
    program = find_program(kind, name)
    if program is None:
        return state, []
    run = Run(kind[1], len(model[1]), number, state, time, arg)
    run.program(program)
    return run.state(), run.sends


def find_program(kind, name):
    """Returns the program of the kind for events of this name, or None."""
    for word, program in kind[2]:
        if word == name:
            return program
    return None


def operate(word, a, b):
    """Returns what an operator makes of two values, before the limit is applied."""
    match word:
        case "add":
            return a + b
        case "sub":
            return a - b
        case "mul":
            return a * b
        case "min":
            return min(a, b)
        case "max":
            return max(a, b)
        case "div":
            return a // b
        case "mod":
            return a % b
        case "less":
            return 1 if a < b else 0
        case "same":
            return 1 if a == b else 0
        case "both":
            return 1 if a != 0 and b != 0 else 0
        case "either":
            return 1 if a != 0 or b != 0 else 0


class Run:
    """The run of one handler: the object's fields as the statements so far have left them."""

    def __init__(self, fields, objects, number, state, time, arg):
        self.ranges = {name: (low, high) for name, low, high in fields}
        self.held = {field[0]: value for field, value in zip(fields, state)}
        self.objects = objects
        self.number = number
        self.time = time
        self.arg = arg
        self.sends = []

    def state(self):
        return tuple([self.held[name] for name in self.ranges])

    def program(self, program):
        for statement in program:
            self.statement(statement)

    def statement(self, statement):
        match statement:
            case ("set", name, e):
                low, high = self.ranges[name]
                self.held[name] = nearest(self.value(e), low, high)
            case ("send", target, delay, name, arg):
                self.send(target, delay, name, arg)
            case ("if", e, first, second):
                self.program(second if self.value(e) == 0 else first)

    def send(self, target, delay, name, arg):
        time = self.time + nearest(self.value(delay), 1, MOST_DELAY)
        receiver = self.value(target) % self.objects
        worth = nearest(self.value(arg), -MOST_NUMBER, MOST_NUMBER)
        self.sends.append((time, receiver, name, worth))

    def value(self, e):
        """Returns the value of an expression."""
        match e:
            case ("int", n):
                return n
            case ("field", name):
                return self.held[name]
            case ("arg",):
                return self.arg
            case ("now",):
                return self.time
            case ("self",):
                return self.number
            case ("not", a):
                return 1 if self.value(a) == 0 else 0
            case ("div" | "mod", a, n):
                return nearest(operate(e[0], self.value(a), n), -LIMIT, LIMIT)
            case (word, a, b):
                return nearest(operate(word, self.value(a), self.value(b)), -LIMIT, LIMIT)
