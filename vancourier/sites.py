"""Sites, which simulate one object each and can take back (points 130 to 136)."""

from vancourier.errors import BadMark
from vancourier.forms import first_state
from vancourier.order import place_of
from vancourier.plain import happen


class Site:
    """The simulation of one object, whose instances are tuples (event, mark)."""

    def __init__(self, model, number, interval, lazy):
        self.model = model
        self.number = number
        self.interval = interval
        self.lazy = lazy
        self.fields = first_state(model, number)
        self.sent = 0
        # The events of all instances by their marks, those included that were thrown away.
        self.held = {}
        # The processed and the waiting instances, both ascending.
        self.done = []
        self.queue = []
        # For each processed instance that was not thrown away: the state and the count saved before it, or None,
        # and the list of the events that it had sent, with their marks.
        self.records = []
        # How many of the processed instances were thrown away, and how many were committed.
        self.thrown = 0
        self.settled = 0
        # The doubtful events as tuples (instance, event, mark), in ascending order of the instances.
        self.doubtful = []

    def insert(self, mark, event):
        """Adds an instance and returns the marks of the events that are cancelled now."""
        if mark in self.held:
            raise BadMark()
        instance = (event, mark)
        marks = self.take_back(place_of(self.done, instance))
        self.held[mark] = event
        self.queue.insert(place_of(self.queue, instance), instance)
        return marks + self.overdue()

    def remove(self, mark):
        """Removes an instance and returns the marks of the events that are cancelled now."""
        if mark not in self.held:
            raise BadMark()
        instance = (self.held[mark], mark)
        index = place_of(self.done, instance)
        if index < self.thrown:
            raise BadMark()
        marks = self.take_back(index)
        del self.queue[place_of(self.queue, instance)]
        del self.held[mark]
        return marks + self.overdue()

    def process(self):
        """Processes the least waiting instance and returns the events that it sends and did not send before."""
        if not self.queue:
            raise BadMark()
        instance = self.queue.pop(0)
        saved = (self.fields, self.sent) if len(self.done) % self.interval == 0 else None
        sends = []
        for event in self.simulate(instance[0]):
            sends.append((event, self.send_again(event)))
        self.done.append(instance)
        self.records.append((saved, sends))
        return [event for event, mark in sends if mark is None]

    def note(self, marks):
        """Takes the marks of the events that the last call of `process` returned."""
        sends = self.records[-1][1]
        unmarked = [index for index, (event, mark) in enumerate(sends) if mark is None]
        for index, mark in zip(unmarked, marks):
            sends[index] = (sends[index][0], mark)

    def overdue(self):
        """Returns the marks of the overdue events, which are not doubtful any more."""
        late = [row for row in self.doubtful if not self.queue or row[0] < self.queue[0]]
        self.doubtful = self.doubtful[len(late):]
        return [mark for instance, event, mark in late]

    def least(self):
        return self.queue[0][0] if self.queue else None

    def state(self):
        return self.fields

    def count(self):
        return self.sent

    def processed(self):
        return [event for event, mark in self.done]

    def waiting(self):
        return [event for event, mark in self.queue]

    def forget(self, time):
        """Takes the promise that nothing before the time will change, and returns the events committed by it."""
        # A tuple is greater than its own beginning: so this counts the instances with a lesser time.
        first = place_of(self.done, ((time,),))
        committed = [event for event, mark in self.done[self.settled:first]]
        self.settled = max(self.settled, first)
        if self.done:
            self.throw_away(self.saved_before(min(first, len(self.done) - 1)))
        return committed

    def kept(self):
        return len(self.records)

    def simulate(self, event):
        """Lets an event happen to the object and returns the events that it sends."""
        self.fields, events = happen(self.model, self.number, self.fields, self.sent, event)
        self.sent += len(events)
        return events

    def send_again(self, event):
        """Returns the mark of a doubtful event that is sent again, or None if there is none."""
        equal = [index for index, row in enumerate(self.doubtful) if row[1] == event]
        if not equal:
            return None
        return self.doubtful.pop(equal[0])[2]

    def saved_before(self, index):
        """Returns the index of the processed instance with the last saved state that is not behind the index."""
        return index - index % self.interval

    def take_back(self, index):
        """Lets the processed instances from the index on wait again, and returns the marks that this cancels."""
        if index == len(self.done):
            return []
        self.restore(index)
        taken = self.done[index:]
        records = self.records[index - self.thrown:]
        del self.done[index:]
        del self.records[index - self.thrown:]
        self.queue = taken + self.queue
        rows = [(instance, event, mark) for instance, record in zip(taken, records) for event, mark in record[1]]
        if self.lazy:
            self.doubtful = sorted(self.doubtful + rows, key=lambda row: row[0])
            return []
        return [mark for instance, event, mark in rows]

    def restore(self, index):
        """Gives the object the state and the count that it had before the processed instance at the index."""
        start = self.saved_before(index)
        self.fields, self.sent = self.records[start - self.thrown][0]
        for event, mark in self.done[start:index]:
            self.simulate(event)

    def throw_away(self, index):
        """Throws away what was kept for the processed instances before the index."""
        if index > self.thrown:
            del self.records[:index - self.thrown]
            self.thrown = index
