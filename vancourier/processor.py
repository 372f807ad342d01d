"""Processors, which simulate some objects of a model and exchange letters (points 141 to 150)."""

from vancourier.plain import START_SENDER, start_events
from vancourier.sites import Site


class Processor:
    """The processor with the number `me` of a placing."""

    def __init__(self, model, placing, me, window, interval, lazy):
        self.end = model[3]
        self.placing = placing
        self.me = me
        self.window = window
        own = [number for number, place in enumerate(placing) if place == me]
        self.sites = {number: Site(model, number, interval, lazy) for number in own}
        for event in start_events(model):
            if event[1] in self.sites:
                self.sites[event[1]].insert((START_SENDER, event[3]), event)
        # The round and the horizon.
        self.turn = 0
        self.reach = 0
        # How many marks and letters were made.
        self.made = 0
        # The events that the own objects sent and that may have to be cancelled, by their marks.
        self.sent = {}
        # The sources and numbers of the letters that were received.
        self.received = {}
        # The events of the antis that wait for their instances, by their marks.
        self.antis = {}
        # For each round of letters, how many more were sent than received.
        self.balance = {}
        # The least time of the events in the letters that were sent in this round.
        self.least_sent = self.end + 1
        # The committed events of all sites.
        self.settled = []

    def receive(self, letter):
        """Takes a letter and returns the letters that are sent because of it."""
        source, receiver, number, turn, kind, mark, event = letter
        if (source, number) in self.received:
            return []
        self.received[(source, number)] = True
        self.balance[turn] = self.balance.get(turn, 0) - 1
        site = self.sites[event[1]]
        if kind == "anti":
            # The letter that brings an instance has the mark of the instance as its source and number.
            if mark in self.received:
                return self.cancel(site.remove(mark))
            self.antis[mark] = event
            return []
        if mark in self.antis:
            del self.antis[mark]
            return []
        return self.cancel(site.insert(mark, event))

    def step(self):
        """Processes one event and returns the letters that are sent, or None if there is none to process."""
        events = self.least_events()
        if not events:
            return None
        event = min(events)
        if event[0] > self.end or event[0] >= self.reach + self.window:
            return None
        site = self.sites[event[1]]
        rows = self.mark_events(site.process())
        site.note([mark for mark, sent in rows])
        letters = [self.letter(mark[1], "event", mark, sent) for mark, sent in rows if sent[1] not in self.sites]
        letters += self.cancel(site.overdue())
        for mark, sent in rows:
            if sent[1] in self.sites:
                letters += self.cancel(self.sites[sent[1]].insert(mark, sent))
        return letters

    def visit(self, token):
        """Takes the token and returns the one that goes on."""
        turn, balance, low, horizon = token
        if horizon > self.reach:
            self.raise_horizon(horizon)
        if self.turn < turn:
            self.turn = turn
            self.least_sent = self.end + 1
        balance += sum([more for sent, more in self.balance.items() if sent < turn])
        return turn, balance, min(low, self.low(), self.least_sent), horizon

    def low(self):
        """Returns the least time of an event that waits or whose anti waits, but at most `end + 1`."""
        events = self.least_events() + list(self.antis.values())
        return min([event[0] for event in events] + [self.end + 1])

    def committed(self):
        return sorted(self.settled)

    def kept(self):
        return sum([site.kept() for site in self.sites.values()])

    def states(self):
        return {number: site.state() for number, site in self.sites.items()}

    def horizon(self):
        return self.reach

    def least_events(self):
        """Returns the least waiting events of the sites that have one."""
        events = [site.least() for site in self.sites.values()]
        return [event for event in events if event is not None]

    def mark_events(self, events):
        """Returns the events with new marks, as tuples (mark, event)."""
        rows = []
        for event in events:
            mark = (self.me, self.new_number())
            self.sent[mark] = event
            rows.append((mark, event))
        return rows

    def new_number(self):
        self.made += 1
        return self.made - 1

    def letter(self, number, kind, mark, event):
        """Returns a new letter to the processor of the event's target."""
        self.balance[self.turn] = self.balance.get(self.turn, 0) + 1
        self.least_sent = min(self.least_sent, event[0])
        return self.me, self.placing[event[1]], number, self.turn, kind, mark, event

    def cancel(self, marks):
        """Cancels the events with the marks, and what becomes due by this, and returns the antis."""
        letters = []
        due = list(marks)
        while due:
            mark = due.pop(0)
            event = self.sent.pop(mark)
            if event[1] in self.sites:
                due += self.sites[event[1]].remove(mark)
            else:
                letters.append(self.letter(self.new_number(), "anti", mark, event))
        return letters

    def raise_horizon(self, horizon):
        self.reach = horizon
        for site in self.sites.values():
            self.settled += site.forget(horizon)
        # An event before the horizon was sent by an instance before it, which is never taken back.
        self.sent = {mark: event for mark, event in self.sent.items() if event[0] >= horizon}
