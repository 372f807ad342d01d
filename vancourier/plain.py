"""Events, and the plain simulation, which processes them one by one (points 120 to 122)."""

from vancourier.forms import first_state
from vancourier.meaning import run_handler
from vancourier.order import place_of

START_SENDER = -1


def start_events(model):
    """Returns the events of the model's start in ascending order."""
    start = model[2]
    return sorted([
        (time, target, START_SENDER, count, name, arg)
        for count, (time, target, name, arg) in enumerate(start)
    ])


def happen(model, number, state, count, event):
    """Returns the state of an object behind an event, and the events that it sends, having sent `count` before."""
    state, sends = run_handler(model, number, state, event[0], event[4], event[5])
    events = [
        (time, target, number, count + index, name, arg)
        for index, (time, target, name, arg) in enumerate(sends)
    ]
    return state, events


def run_plain(model):
    """Returns the plain simulation of the model after all its steps."""
    plain = Plain(model)
    while plain.step() is not None:
        pass
    return plain


class Plain:
    """The plain simulation of a model."""

    def __init__(self, model):
        objects = range(len(model[1]))
        self.model = model
        self.fields = [first_state(model, number) for number in objects]
        self.sent = [0 for number in objects]
        self.queue = start_events(model)
        self.done = []

    def step(self):
        """Processes the least waiting event and returns it, or None if the simulation is at its end."""
        end = self.model[3]
        if not self.queue or self.queue[0][0] > end:
            return None
        event = self.queue.pop(0)
        number = event[1]
        self.fields[number], events = happen(self.model, number, self.fields[number], self.sent[number], event)
        self.sent[number] += len(events)
        for sent in events:
            self.queue.insert(place_of(self.queue, sent), sent)
        self.done.append(event)
        return event

    def history(self):
        return list(self.done)

    def states(self):
        return list(self.fields)

    def waiting(self):
        return list(self.queue)
