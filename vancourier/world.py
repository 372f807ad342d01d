"""Worlds: all processors of a placing with the letters in flight and the token (points 170 to 177)."""

from vancourier.errors import BadAct
from vancourier.forms import check_model, check_placing, is_integer
from vancourier.processor import Processor
from vancourier.ring import first_token, next_token

MOST_WINDOW = 1000
MOST_INTERVAL = 8
CALM_TOURS = 4


def run_calm(model, placing, window, interval, lazy):
    """Returns a world behind as many calm cycles as its run needs at most (point 177)."""
    world = World(model, placing, window, interval, lazy)
    for _ in range(2 + (model[3] + 1) // window):
        world.calm()
    return world


def require_act(holds):
    if not holds:
        raise BadAct()


def require_index(k, rows):
    require_act(is_integer(k, 0, len(rows) - 1))


class World:
    """A parallel simulation, in which everything that happens is an act."""

    def __init__(self, model, placing, window, interval, lazy):
        check_model(model)
        processors = check_placing(model, placing)
        require_act(is_integer(window, 1, MOST_WINDOW))
        require_act(is_integer(interval, 1, MOST_INTERVAL))
        require_act(isinstance(lazy, bool))
        self.end = model[3]
        self.ring = [Processor(model, placing, me, window, interval, lazy) for me in range(processors)]
        # The letters in flight.
        self.flight = []
        # The token as it goes to the processor with the number `place`.
        self.baton = first_token(self.end)
        self.place = 0

    def act(self, value):
        """Performs an act, or raises BadAct if the value is none or is not possible."""
        require_act(isinstance(value, tuple))
        match value:
            case ("step", p):
                require_index(p, self.ring)
                require_act(self.step(p))
            case ("deliver", k):
                require_index(k, self.flight)
                self.deliver(k)
            case ("double", k):
                require_index(k, self.flight)
                self.flight.append(self.flight[k])
            case ("move", k):
                require_index(k, self.flight)
                self.flight.append(self.flight.pop(k))
            case ("hop",):
                self.hop()
            case _:
                raise BadAct()

    def calm(self):
        """Performs a calm cycle."""
        moving = True
        while moving:
            while self.flight:
                self.deliver(0)
            # A list, as every processor is to make its step.
            moving = any([self.step(p) for p in range(len(self.ring))])
        for _ in range(CALM_TOURS * len(self.ring)):
            self.hop()

    def net(self):
        return list(self.flight)

    def token(self):
        return self.baton

    def horizons(self):
        return [one.horizon() for one in self.ring]

    def committed(self):
        return sorted([event for one in self.ring for event in one.committed()])

    def states(self):
        found = {}
        for one in self.ring:
            found.update(one.states())
        return [found[number] for number in range(len(found))]

    def kept(self):
        return [one.kept() for one in self.ring]

    def processors(self):
        return len(self.ring)

    def done(self):
        return all([horizon == self.end + 1 for horizon in self.horizons()])

    def step(self, p):
        """Lets a processor make a step and tells whether it could."""
        letters = self.ring[p].step()
        if letters is None:
            return False
        self.flight.extend(letters)
        return True

    def deliver(self, k):
        letter = self.flight.pop(k)
        self.flight.extend(self.ring[letter[1]].receive(letter))

    def hop(self):
        self.baton = self.ring[self.place].visit(self.baton)
        self.place += 1
        if self.place == len(self.ring):
            self.baton = next_token(self.baton, self.end)
            self.place = 0
