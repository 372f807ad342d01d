"""The console: a text with a model, a world for it, and commands (points 190 and 191)."""

from vancourier.errors import BadAct, BadModel
from vancourier.forms import require
from vancourier.notation import is_digits, parse_model
from vancourier.world import World

MOST_DIGITS = 6
MODES = {"eager": False, "lazy": True}


def run_console(text):
    """Returns the lines that the commands of a console text print."""
    require(isinstance(text, str))
    lines = text.split("\n")
    at = find_run_line(lines)
    model = parse_model("\n".join(lines[:at]))
    world = make_world(model, lines[at])
    printed = []
    for number, line in enumerate(lines[at + 1:], start=at + 2):
        if line != "" and not line.startswith("#"):
            printed.extend(answer(world, number, line))
    return printed


def find_run_line(lines):
    """Returns the index of the run line."""
    for index, line in enumerate(lines):
        if line.split(" ")[0] == "run":
            return index
    raise BadModel()


def make_world(model, line):
    """Returns the world that the run line describes."""
    words = line.split(" ")
    require(len(words) == 5)
    _, places, window, interval, mode = words
    placing = tuple([integer_or_none(word) for word in places.split(",")])
    # A world takes None for nothing: so it finds what is written wrongly.
    try:
        return World(model, placing, integer_or_none(window), integer_or_none(interval), MODES.get(mode))
    except BadAct:
        raise BadModel() from None


def integer_or_none(word):
    """Returns the integer that is written in the right way, or None."""
    zero_in_front = word.startswith("0") and word != "0"
    return int(word) if is_digits(word, MOST_DIGITS) and not zero_in_front else None


def answer(world, number, line):
    """Performs the command on the line with the number, if it is one, and returns what is printed."""
    try:
        return perform(world, line.split(" "))
    except BadAct:
        return [f"line {number} is not possible"]


def perform(world, words):
    """Performs a command and returns the printed lines, or raises BadAct if it is none or not possible."""
    match words:
        case ["step" | "deliver" | "double" | "move", word]:
            world.act((words[0], integer_or_none(word)))
            return []
        case ["hop"]:
            world.act(("hop",))
            return []
        case ["calm"]:
            world.calm()
            return []
        case ["show", topic]:
            return show(world, topic)
        case _:
            raise BadAct()


def show(world, topic):
    match topic:
        case "committed":
            return [line_of(event) for event in world.committed()]
        case "states":
            return [line_of(state) for state in world.states()]
        case "net":
            return [letter_line(letter) for letter in world.net()]
        case "horizons":
            return [line_of(world.horizons())]
        case "token":
            return [line_of(world.token())]
        case "kept":
            return [line_of(world.kept())]
        case "done":
            return ["yes" if world.done() else "no"]
        case _:
            raise BadAct()


def letter_line(letter):
    source, receiver, number, turn, kind, mark, event = letter
    return line_of((kind, source, receiver, number, turn, *mark, *event))


def line_of(parts):
    return " ".join([str(part) for part in parts])
