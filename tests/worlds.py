"""For the tests of worlds: a world that is watched, random acts, and a second, simple way to do the acts."""

from tests.samples import random_program
from vancourier.errors import BadAct
from vancourier.forms import check_model
from vancourier.plain import Plain, run_plain
from vancourier.processor import Processor
from vancourier.world import World

# How likely the acts are: step, hop, deliver, double, move.
WEIGHTS = ((6, 1, 3, 1, 2), (2, 1, 4, 1, 1), (9, 2, 2, 0, 0), (3, 4, 3, 2, 2), (1, 0, 1, 0, 1), (1, 9, 1, 0, 0))


def view(world):
    """Returns what the methods of a world return."""
    return (world.net(), world.token(), world.horizons(), world.committed(), world.states(), world.kept(),
            world.processors(), world.done())


def enough(model, window):
    """Returns how many calm cycles are enough (point 177)."""
    return 2 + (model[3] + 1) // window


def random_act(chance, world, weights):
    """Returns a random act of a world, which need not be possible."""
    word = chance.choices(("step", "hop", "deliver", "double", "move"), weights)[0]
    if word == "step":
        return word, chance.randrange(world.processors())
    return ("hop",) if word == "hop" else (word, chance.randrange(len(world.net()) or 1))


def random_placing(chance, model, most=8):
    """Returns a placing, most often on many processors, of which some may have no object."""
    processors = min(most, chance.choice((1, 2, 3, 8, 8, 8)))
    return tuple(chance.randrange(processors) for _ in model[1])


def random_settings(chance, model):
    """Returns a placing, a window, an interval, and True for lazy cancelling."""
    window = chance.choice((1, 2, 3, 10, 40, 1000))
    return random_placing(chance, model), window, chance.randint(1, 8), chance.random() < 0.5


def crowded_model(chance):
    """Returns a model of 1 to 8 objects, where many equal events happen at the same times."""
    while True:
        many = chance.randint(1, 8)
        start = tuple(
            (chance.randint(0, 1), chance.randrange(many), "go", chance.randint(0, 1))
            for _ in range(chance.randint(4, 12))
        )
        kinds = tuple(
            (name, (("n", -1, 2), ("m", 0, 1)), (("go", random_program(chance)), ("tell", crowded_program(chance))))
            for name in ("box", "wall")
        )
        objects = tuple(chance.choice(("box", "wall")) for _ in range(many))
        model = (kinds, objects, start, chance.randint(3, 12))
        plain = Plain(check_model(model))
        if [plain.step() for _ in range(150)][-1] is None:
            return model


def crowded_program(chance):
    """Returns a program that sends one or two events soon, which depend on little."""
    n, m = ("field", "n"), ("field", "m")
    target = ("add", ("self",), ("int", chance.randint(0, 3)))
    send = ("send", target, ("int", chance.randint(0, 2)), chance.choice(("go", "tell")), chance.choice((n, m, ("arg",))))
    change = ("set", chance.choice("nm"), ("sub", ("int", 1), ("field", chance.choice("nm"))))
    return (change, ("if", ("less", n, ("int", chance.randint(0, 2))), (send,), (send, ("skip",), send)))


class Watch:
    """A world for which the promises of point 2, and those of points 141, 152 and 158, are checked."""

    def __init__(self, model, placing, window, interval, lazy):
        self.placing = placing
        self.window = window
        self.interval = interval
        self.world = World(model, placing, window, interval, lazy)
        self.history = run_plain(model).history()
        self.made = []
        self.found = []
        self.seen = self.world.horizons()
        # For each processor: the least time of an event that was inserted or removed since the token's last visit,
        # and the time before which this must not happen any more.
        self.touched = [model[3] + 99 for one in self.world.ring]
        self.floors = [0 for one in self.world.ring]
        for p, one in enumerate(self.world.ring):
            self.spy_letters(one)
            for site in one.sites.values():
                self.spy_times(p, site)

    def spy_letters(self, one):
        receive, step = one.receive, one.step

        def spied_receive(letter):
            letters = receive(letter)
            self.made += letters
            return letters

        def spied_step():
            letters = step()
            self.made += letters or []
            return letters

        one.receive, one.step = spied_receive, spied_step

    def spy_times(self, p, site):
        insert, remove = site.insert, site.remove

        def spied_insert(mark, event):
            self.touch(p, event[0])
            return insert(mark, event)

        def spied_remove(mark):
            self.touch(p, site.held[mark][0])
            return remove(mark)

        site.insert, site.remove = spied_insert, spied_remove

    def touch(self, p, time):
        # All that is taken back is greater than what is inserted or removed.
        self.touched[p] = min(self.touched[p], time)
        if time < self.floors[p]:
            self.found.append("something changes before the low of a token with the sum 0")

    def act(self, value):
        """Performs an act and tells whether it was possible."""
        before = self.world.token()
        p = self.world.place
        try:
            self.world.act(value)
        except BadAct:
            return False
        if value == ("hop",):
            self.touched[p] = self.world.end + 99
            if self.world.token()[0] > before[0]:
                self.take_low(self.world.token()[3])
        return True

    def take_low(self, low):
        """Takes notice that the token came around with the sum 0."""
        if min(self.touched) < low:
            self.found.append("something has changed before the low of the token since its visit")
        self.floors = [max(low, floor) for floor in self.floors]

    def calm(self):
        """Performs a calm cycle, act by act."""
        moving = True
        while moving:
            while self.world.net():
                self.act(("deliver", 0))
            moving = any([self.act(("step", p)) for p in range(self.world.processors())])
        for _ in range(4 * self.world.processors()):
            self.act(("hop",))

    def antis(self):
        return len([letter for letter in self.made if letter[4] == "anti"])

    def faults(self):
        """Returns what does not hold at this moment."""
        found = list(self.found)
        if len({(letter[0], letter[2]) for letter in self.made}) < len(self.made):
            found.append("two letters have the same source and number")
        horizons = self.world.horizons()
        if [1 for old, new in zip(self.seen, horizons) if new < old]:
            found.append("a horizon decreases")
        self.seen = horizons
        for p, one in enumerate(self.world.ring):
            before = [event for event in self.history if event[0] < horizons[p] and self.placing[event[1]] == p]
            if one.committed() != before:
                found.append("other events are committed")
            found += self.kept_faults(one)
        if self.world.committed() != sorted(event for one in self.world.ring for event in one.committed()):
            found.append("the world has committed other events than its processors")
        return found

    def kept_faults(self, one):
        """Returns what a processor keeps against point 158."""
        horizon = one.horizon()
        found = []
        most = 0
        for site in one.sites.values():
            times = [event[0] for event in site.processed()]
            fresh = [time for time in times if horizon <= time < horizon + self.window]
            old = [time for time in times if time < horizon]
            if len(fresh) + len(old) < len(times):
                found.append("an event behind the window is processed")
            if site.kept() > len(fresh) + min(self.interval, len(old)):
                found.append("an object keeps too much")
            most += site.kept()
        if one.kept() != most:
            found.append("a processor keeps more than its sites")
        if [event for event in one.sent.values() if event[0] < horizon]:
            found.append("an event is kept that cannot be cancelled any more")
        return found


class Ring:
    """Processors with a net and a token, as points 150, 151, 170, 171 and 175 describe them, in another way."""

    def __init__(self, model, placing, window, interval, lazy):
        self.end = model[3]
        self.number = len(model[1])
        self.members = [Processor(model, placing, me, window, interval, lazy) for me in range(max(placing) + 1)]
        self.letters = ()
        self.hops = 0
        self.coin = (1, 0, self.end + 1, 0)

    def act(self, value):
        """Performs an act and tells whether it was possible."""
        word, *rest = value
        if word == "hop":
            self.hop()
            return True
        if word == "step":
            letters = self.members[rest[0]].step()
            self.letters += tuple(letters or ())
            return letters is not None
        if rest[0] >= len(self.letters):
            return False
        letter = self.letters[rest[0]]
        others = self.letters[:rest[0]] + self.letters[rest[0] + 1:]
        if word == "deliver":
            self.letters = others + tuple(self.members[letter[1]].receive(letter))
        else:
            self.letters = (self.letters if word == "double" else others) + (letter,)
        return True

    def hop(self):
        place = self.hops % len(self.members)
        self.hops += 1
        self.coin = self.members[place].visit(self.coin)
        if place == len(self.members) - 1:
            turn, balance, low, horizon = self.coin
            self.coin = (turn, 0, self.end + 1, horizon) if balance else (turn + 1, 0, self.end + 1, low)

    def calm(self):
        """Performs a calm cycle."""
        while True:
            while self.letters:
                self.act(("deliver", 0))
            steps = [self.act(("step", p)) for p in range(len(self.members))]
            if True not in steps:
                break
        for _ in range(4 * len(self.members)):
            self.hop()

    def view(self):
        """Returns what the methods of a world return."""
        states = {}
        for one in self.members:
            states.update(one.states())
        horizons = [one.horizon() for one in self.members]
        committed = sorted(event for one in self.members for event in one.committed())
        return (list(self.letters), self.coin, horizons, committed, [states[k] for k in range(self.number)],
                [one.kept() for one in self.members], len(self.members), set(horizons) == {self.end + 1})
