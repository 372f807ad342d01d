"""Sites against a slow one, which works everything out anew from the instances that it holds."""

import random
import unittest

from tests.samples import SITE_MODEL, view
from vancourier.errors import BadMark
from vancourier.forms import first_state
from vancourier.meaning import run_handler
from vancourier.sites import Site


class SlowSite:
    """A site as points 130 to 136 describe it."""

    def __init__(self, model, number, interval, lazy):
        self.model = model
        self.number = number
        self.interval = interval
        self.lazy = lazy
        self.held = {}
        self.done = 0
        self.sends = {}
        self.last = None
        self.doubtful = []
        self.thrown = 0
        self.settled = 0

    def instances(self):
        return sorted((event, mark) for mark, event in self.held.items())

    def run(self):
        """Returns the state, the count, and what the last processed instance sends."""
        state, count, events = first_state(self.model, self.number), 0, []
        for event, _ in self.instances()[:self.done]:
            state, sends = run_handler(self.model, self.number, state, event[0], event[4], event[5])
            events = [send[:2] + (self.number, count + index) + send[2:] for index, send in enumerate(sends)]
            count += len(sends)
        return state, count, events

    def back(self, index):
        rows = []
        for instance in self.instances()[index:self.done]:
            rows += [(instance, event, mark) for event, mark in self.sends.pop(instance)]
        self.done = min(self.done, index)
        if self.lazy:
            self.doubtful += rows
            return []
        return [mark for _, _, mark in rows]

    def insert(self, mark, event):
        if mark in self.held:
            raise BadMark()
        marks = self.back(len([each for each in self.instances()[:self.done] if each < (event, mark)]))
        self.held[mark] = event
        return marks + self.overdue()

    def remove(self, mark):
        if mark not in self.held:
            raise BadMark()
        index = self.instances().index((self.held[mark], mark))
        if index < self.thrown:
            raise BadMark()
        marks = self.back(index)
        del self.held[mark]
        return marks + self.overdue()

    def overdue(self):
        waiting = self.instances()[self.done:]
        late = [row for row in self.doubtful if not [each for each in waiting if each <= row[0]]]
        self.doubtful = [row for row in self.doubtful if row not in late]
        return [mark for _, _, mark in sorted(late, key=lambda row: row[0])]

    def process(self):
        waiting = self.instances()[self.done:]
        if not waiting:
            raise BadMark()
        self.done += 1
        self.last = waiting[0]
        self.sends[self.last] = []
        for event in self.run()[2]:
            again = [row for row in self.doubtful if row[1] == event][:1]
            self.doubtful = [row for row in self.doubtful if row not in again]
            self.sends[self.last].append((event, again[0][2] if again else None))
        return [event for event, mark in self.sends[self.last] if mark is None]

    def note(self, marks):
        rest = list(marks)
        rows = self.sends[self.last]
        self.sends[self.last] = [(event, rest.pop(0) if mark is None else mark) for event, mark in rows]

    def least(self):
        return (self.waiting() or [None])[0]

    def state(self):
        return self.run()[0]

    def count(self):
        return self.run()[1]

    def processed(self):
        return [event for event, _ in self.instances()[:self.done]]

    def waiting(self):
        return [event for event, _ in self.instances()[self.done:]]

    def forget(self, time):
        before = [event for event in self.processed() if event[0] < time]
        committed = before[self.settled:]
        self.settled = max(self.settled, len(before))
        saved = [index for index in range(self.thrown, self.done) if index % self.interval == 0]
        if len(before) < self.done:
            saved = [index for index in saved if index <= len(before)]
        self.thrown = max([self.thrown] + saved)
        return committed

    def kept(self):
        return self.done - self.thrown


class Run:
    """A random run of a site and a slow site beside each other."""

    def __init__(self, seed):
        self.chance = random.Random(seed)
        self.interval = self.chance.randint(1, 8)
        self.lazy = self.chance.random() < 0.6
        self.sites = [kind(SITE_MODEL, 0, self.interval, self.lazy) for kind in (Site, SlowSite)]
        self.span = self.chance.choice((3, 12))
        self.promise = 0
        self.made = 0
        self.marks = []
        self.cancelled = []
        self.again = 0

    def call(self, name, *args):
        """Calls both sites, and returns what both return, or "bad" if both raise BadMark."""
        found = []
        for site in self.sites:
            try:
                found.append(getattr(site, name)(*args))
            except BadMark:
                found.append("bad")
        if found[0] != found[1] or view(self.sites[0]) != view(self.sites[1]):
            raise AssertionError((name, args, found, view(self.sites[0]), view(self.sites[1])))
        if name in ("insert", "remove", "overdue") and found[0] != "bad":
            self.cancelled += found[0]
        return found[0]

    def turn(self):
        chance = self.chance.random()
        if chance < 0.35:
            self.insert()
        elif chance < 0.5:
            self.remove()
        elif chance < 0.93:
            self.process()
        else:
            self.promise += self.chance.randint(0, self.span // 2)
            self.call("forget", self.promise if self.chance.random() < 0.8 else max(0, self.promise - 3))

    def insert(self):
        time = self.promise + self.chance.randint(0, self.span)
        name = self.chance.choice(("go", "go", "quiet", "back", "twice", "nobody"))
        sender, count = self.chance.randint(-1, 1), self.chance.randint(0, 1)
        mark = (self.chance.randint(-1, 3), self.made)
        if self.marks and self.chance.random() < 0.1:
            mark = self.chance.choice(self.marks)
        self.made += 1
        self.marks.append(mark)
        self.call("insert", mark, (time, 0, sender, count, name, self.chance.randint(-3, 3)))

    def remove(self):
        mark = self.chance.choice(self.marks + [(9, 9)])
        slow = self.sites[1]
        promised = mark in slow.held and slow.held[mark][0] < self.promise
        if not promised or slow.instances().index((slow.held[mark], mark)) < slow.thrown:
            self.call("remove", mark)

    def process(self):
        events = self.call("process")
        if events != "bad":
            self.call("note", [(5, self.made + index) for index in range(len(events))])
            self.made += len(events)
            slow = self.sites[1]
            self.again += len(slow.sends[slow.last]) - len(events)
            if self.chance.random() < 0.8:
                self.call("overdue")


class RandomTest(unittest.TestCase):
    def test_random_runs(self):
        cancelled = {True: 0, False: 0}
        again = 0
        for seed in range(250):
            with self.subTest(seed=seed):
                run = Run(seed)
                for _ in range(60):
                    run.turn()
                self.assertEqual(len(run.cancelled), len(set(run.cancelled)))
                cancelled[run.lazy] += len(run.cancelled)
                again += run.again
        # Otherwise the runs would not have tested much.
        self.assertGreater(min(cancelled[True], cancelled[False], again), 200)


if __name__ == "__main__":
    unittest.main()
