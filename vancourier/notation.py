"""The text of a model, and the way back (points 180 to 182)."""

from vancourier.forms import MOST_DEPTH, check_model, require

STATEMENTS = ("set", "send", "if", "skip")
PLAIN_WORDS = ("arg", "now", "self")
WITH_NUMBER = ("div", "mod")
WITH_TWO = ("add", "sub", "mul", "min", "max", "less", "same", "both", "either")
DIGITS = "0123456789"
# No integer of a model has more digits.
MOST_DIGITS = 7


def model_text(model):
    """Returns the text of a model."""
    kinds, objects, start, end = model
    lines = [f"end {end}"]
    for kind in kinds:
        lines.extend(kind_lines(kind))
    lines.extend([f"object {name}" for name in objects])
    lines.extend([f"start {time} {target} {name} {arg}" for time, target, name, arg in start])
    return "\n".join(lines)


def parse_model(text):
    """Returns the model that has this text, otherwise raises BadModel."""
    require(isinstance(text, str))
    model = check_model(Reader(text).model())
    # The reader takes no notice of what separates the words, of zeros in front and of what is left: here they count.
    require(model_text(model) == text)
    return model


def kind_lines(kind):
    name, fields, handlers = kind
    lines = [f"kind {name}"]
    lines.extend([f"field {field} {low} {high}" for field, low, high in fields])
    for word, program in handlers:
        lines.append(f"on {word}")
        lines.extend(program_lines(program))
    return lines


def program_lines(program):
    lines = []
    for statement in program:
        lines.extend(statement_lines(statement))
    return lines


def statement_lines(statement):
    match statement:
        case ("set", name, e):
            return [f"set {name} {expression_text(e)}"]
        case ("send", target, delay, name, arg):
            return [f"send {expression_text(target)} {expression_text(delay)} {name} {expression_text(arg)}"]
        case ("if", e, first, second):
            head = [f"if {expression_text(e)}"]
            return head + program_lines(first) + ["else"] + program_lines(second) + ["done"]
        case _:
            return ["skip"]


def expression_text(e):
    match e:
        case ("int", n):
            return str(n)
        case ("field", name):
            return f".{name}"
        case ("div" | "mod", a, n):
            return f"{e[0]} {expression_text(a)} {n}"
        case (word, *operands):
            return " ".join([word] + [expression_text(operand) for operand in operands])


class Reader:
    """The words of a text, read one by one. What it returns has the form of a model, but need not be one."""

    def __init__(self, text):
        self.words = text.replace("\n", " ").split(" ")
        self.at = 0

    def model(self):
        self.expect("end")
        end = self.integer()
        kinds = []
        while self.follows("kind"):
            kinds.append(self.kind())
        objects = []
        while self.follows("object"):
            objects.append(self.word())
        start = []
        while self.follows("start"):
            start.append((self.integer(), self.integer(), self.word(), self.integer()))
        return tuple(kinds), tuple(objects), tuple(start), end

    def kind(self):
        name = self.word()
        fields = []
        while self.follows("field"):
            fields.append((self.word(), self.integer(), self.integer()))
        handlers = []
        while self.follows("on"):
            handlers.append((self.word(), self.program(1)))
        return name, tuple(fields), tuple(handlers)

    def program(self, depth):
        statements = []
        while self.at < len(self.words) and self.words[self.at] in STATEMENTS:
            statements.append(self.statement(depth))
        return tuple(statements)

    def statement(self, depth):
        deeper = depth + 1
        match self.word():
            case "set":
                return "set", self.word(), self.expression(deeper)
            case "send":
                target = self.expression(deeper)
                delay = self.expression(deeper)
                return "send", target, delay, self.word(), self.expression(deeper)
            case "if":
                e = self.expression(deeper)
                first = self.program(deeper)
                self.expect("else")
                second = self.program(deeper)
                self.expect("done")
                return "if", e, first, second
            case _:
                return ("skip",)

    def expression(self, depth):
        # The depth is limited on the way in, so that no text nests the calls deeper than a model can. This limits the
        # nesting of statements too, as each `if` has an expression.
        require(depth <= MOST_DEPTH)
        word = self.word()
        if word in PLAIN_WORDS:
            return (word,)
        if word == "not":
            return word, self.expression(depth + 1)
        if word in WITH_NUMBER:
            return word, self.expression(depth + 1), self.integer()
        if word in WITH_TWO:
            return word, self.expression(depth + 1), self.expression(depth + 1)
        if word.startswith("."):
            return "field", word[1:]
        return "int", integer_of(word)

    def word(self):
        require(self.at < len(self.words))
        self.at += 1
        return self.words[self.at - 1]

    def integer(self):
        return integer_of(self.word())

    def expect(self, word):
        require(self.word() == word)

    def follows(self, word):
        """Takes the next word if it is this one, and tells whether it was."""
        found = self.at < len(self.words) and self.words[self.at] == word
        if found:
            self.at += 1
        return found


def integer_of(word):
    require(is_digits(word.removeprefix("-"), MOST_DIGITS))
    return int(word)


def is_digits(word, most):
    """Tells whether a word consists of 1 to so many decimal digits."""
    return 1 <= len(word) <= most and all(sign in DIGITS for sign in word)
