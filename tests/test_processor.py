import unittest

from tests.samples import ADD, N, ONE
from vancourier.forms import check_model
from vancourier.processor import Processor


def send(target, delay, name, arg=N):
    return ("send", ("int", target), ("int", delay), name, arg)


# What the handlers do beside adding the argument of `add` and `plus`:
# `spread` sends the sum to the objects 0 to 3; `fork` sends to the objects 2 and 3; `relay` sends to 4 and then to 1;
# `out` sends to 1; `plus` sends a constant to 1.
HANDLERS = {
    "spread": (send(0, 4, "add"), send(1, 2, "add"), send(2, 3, "add"), send(3, 2, "add")),
    "add": (ADD,),
    "fork": (send(2, 1, "add", ONE), send(3, 1, "add", ONE)),
    "relay": (send(4, 1, "out"), send(1, 3, "add")),
    "out": (send(1, 1, "add"),),
    "plus": (ADD, send(1, 2, "add", ("int", 7))),
}


def model_of(names, start, objects=5, end=50):
    kind = ("box", (("n", 0, 99),), tuple((name, HANDLERS[name]) for name in names))
    return check_model(((kind,), ("box",) * objects, start, end))


def processor(names, start, placing, end=50, window=1000, interval=1, lazy=False):
    """Returns the processor 0 of a placing."""
    return Processor(model_of(names.split(), start, len(placing), end), placing, 0, window, interval, lazy)


def brought(number, event, source=1, turn=0):
    """Returns a letter that brings an event to the processor 0."""
    return (source, 0, number, turn, "event", (source, number), event)


def revoked(number, mark, event, turn=0):
    """Returns a letter that cancels an event at the processor 0."""
    return (mark[0], 0, number, turn, "anti", mark, event)


def steps(one):
    """Returns the letters of all steps of a processor, until one returns None."""
    found = []
    letters = one.step()
    while letters is not None:
        found.append(letters)
        letters = one.step()
    return found


class BeginningTest(unittest.TestCase):
    def test_a_processor_without_objects(self):
        one = processor("add", ((0, 0, "add", 1),), (1, 1))
        self.assertIsNone(one.step())
        self.assertEqual((one.low(), one.committed(), one.kept(), one.states(), one.horizon()), (51, [], 0, {}, 0))
        self.assertEqual(one.visit((1, 3, 8, 2)), (1, 3, 8, 2))
        self.assertEqual(one.horizon(), 2)

    def test_the_events_of_start_for_its_objects(self):
        start = ((6, 0, "add", 1), (2, 1, "add", 2), (4, 2, "add", 3))
        one = processor("add", start, (0, 1, 0))
        self.assertEqual((one.low(), one.kept(), one.states(), one.horizon()), (4, 0, {0: (0,), 2: (0,)}, 0))
        self.assertEqual(steps(one), [[], []])
        self.assertEqual(one.states(), {0: (1,), 2: (3,)})
        other = Processor(model_of(["add"], start, 3), (0, 1, 0), 1, 10, 1, True)
        self.assertEqual((other.low(), other.states()), (2, {1: (0,)}))

    def test_start_events_have_the_marks_with_minus_one(self):
        # An equal event with the mark (-1, 1) is greater than the one with (-1, 0), and less than the one with (1, 0).
        one = processor("plus", ((3, 0, "plus", 1), (3, 0, "plus", 1)), (0, 1))
        steps(one)
        self.assertEqual(one.receive(brought(0, (3, 0, -1, 0, "plus", 1))), [
            (0, 1, 2, 0, "anti", (0, 1), (5, 1, 0, 1, "add", 7))])

    def test_states_and_committed_are_new(self):
        one = processor("add", ((1, 0, "add", 1),), (0,))
        one.step()
        one.states().clear()
        one.visit((1, 0, 51, 2))
        one.committed().clear()
        self.assertEqual((one.states(), one.committed()), ({0: (1,)}, [(1, 0, -1, 0, "add", 1)]))


class StepTest(unittest.TestCase):
    def test_the_least_event_of_all_sites(self):
        start = ((3, 2, "plus", 1), (3, 0, "plus", 2), (1, 2, "plus", 3), (3, 0, "add", 4))
        one = processor("plus add", start, (0, 1, 0))
        self.assertEqual(steps(one), [
            [(0, 1, 0, 0, "event", (0, 0), (3, 1, 2, 0, "add", 7))],
            [(0, 1, 1, 0, "event", (0, 1), (5, 1, 0, 0, "add", 7))],
            [],
            [(0, 1, 2, 0, "event", (0, 2), (5, 1, 2, 1, "add", 7))]])

    def test_numbers_of_events_for_own_and_for_other_objects(self):
        for lazy in (False, True):
            one = processor("spread add", ((3, 0, "spread", 0), (4, 2, "spread", 0)), (0, 1, 0, 2), lazy=lazy)
            self.assertEqual(one.step(), [
                (0, 1, 1, 0, "event", (0, 1), (5, 1, 0, 1, "add", 0)),
                (0, 2, 3, 0, "event", (0, 3), (5, 3, 0, 3, "add", 0))])
            self.assertEqual(one.step(), [
                (0, 1, 5, 0, "event", (0, 5), (6, 1, 2, 1, "add", 0)),
                (0, 2, 7, 0, "event", (0, 7), (6, 3, 2, 3, "add", 0))])
            # The own events wait at the times 7 and 6, and 8 and 7.
            self.assertEqual(one.low(), 6)
            self.assertEqual(steps(one), [[], [], [], []])

    def test_events_for_own_objects_are_processed(self):
        one = processor("spread add", ((1, 0, "add", 5), (3, 0, "spread", 0)), (0, 1, 0, 1))
        steps(one)
        self.assertEqual(one.states(), {0: (10,), 2: (5,)})

    def test_the_window(self):
        one = processor("add", ((0, 0, "add", 1), (4, 0, "add", 1), (5, 0, "add", 1), (8, 0, "add", 1)), (0,), window=5)
        self.assertEqual(steps(one), [[], []])
        self.assertEqual((one.states(), one.low()), ({0: (2,)}, 5))
        one.visit((1, 0, 51, 1))
        self.assertEqual(steps(one), [[]])
        one.visit((2, 0, 51, 3))
        self.assertEqual(steps(one), [])
        one.visit((3, 0, 51, 4))
        self.assertEqual(steps(one), [[]])
        self.assertEqual(one.states(), {0: (4,)})

    def test_the_window_of_one(self):
        one = processor("add", ((0, 0, "add", 1), (0, 1, "add", 1), (1, 0, "add", 1)), (0, 0), window=1)
        self.assertEqual(len(steps(one)), 2)
        one.visit((1, 0, 51, 1))
        self.assertEqual(len(steps(one)), 1)

    def test_the_end_of_the_model(self):
        one = processor("spread add", ((5, 0, "spread", 0), (10, 0, "add", 1)), (0, 0, 0, 0), end=10)
        self.assertEqual(len(steps(one)), 6)
        one = processor("spread add", ((5, 0, "spread", 0),), (0, 0, 0, 0), end=8)
        # The event at the time 9 waits, those at 7, 7 and 8 do not.
        self.assertEqual(len(steps(one)), 4)
        self.assertIsNone(one.step())
        self.assertEqual(one.low(), 9)

    def test_an_event_behind_the_end_is_sent(self):
        one = processor("out add", ((8, 0, "out", 0),), (0, 1), end=8)
        self.assertEqual(one.step(), [(0, 1, 0, 0, "event", (0, 0), (9, 1, 0, 0, "add", 0))])

    def test_nothing_to_process(self):
        self.assertIsNone(processor("add", (), (0, 1)).step())

    def test_each_insertion_is_done_with_its_cancellations_before_the_next_one(self):
        start = ((5, 2, "relay", 0), (5, 3, "out", 0))
        one = processor("relay out fork add", start, (0, 1, 0, 0, 0))
        self.assertEqual(steps(one), [
            [(0, 1, 1, 0, "event", (0, 1), (8, 1, 2, 1, "add", 0))],
            [(0, 1, 2, 0, "event", (0, 2), (6, 1, 3, 0, "add", 0))],
            [(0, 1, 3, 0, "event", (0, 3), (7, 1, 4, 0, "add", 0))]])
        self.assertEqual(one.receive(brought(0, (1, 0, 1, 0, "fork", 0))), [])
        # The insertion at 2 takes `relay` back: the event (0, 0) at 4 is removed, and (0, 1) and then (0, 3) are
        # cancelled. The insertion at 3 takes `out` back.
        self.assertEqual(one.step(), [
            (0, 1, 6, 0, "anti", (0, 1), (8, 1, 2, 1, "add", 0)),
            (0, 1, 7, 0, "anti", (0, 3), (7, 1, 4, 0, "add", 0)),
            (0, 1, 8, 0, "anti", (0, 2), (6, 1, 3, 0, "add", 0))])
        self.assertEqual((one.kept(), one.low()), (1, 2))


class EagerTest(unittest.TestCase):
    def test_a_straggler_cancels_what_was_sent(self):
        one = processor("spread add", ((3, 0, "spread", 0),), (0, 1, 0, 2))
        one.step()
        self.assertEqual(one.receive(brought(7, (1, 0, 1, 0, "add", 5))), [
            (0, 1, 4, 0, "anti", (0, 1), (5, 1, 0, 1, "add", 0)),
            (0, 2, 5, 0, "anti", (0, 3), (5, 3, 0, 3, "add", 0))])
        # The own events are removed, so that only the straggler and the event of start wait.
        self.assertEqual((one.low(), one.kept()), (1, 0))
        self.assertEqual(one.step(), [])
        self.assertEqual(one.step(), [
            (0, 1, 7, 0, "event", (0, 7), (5, 1, 0, 1, "add", 5)),
            (0, 2, 9, 0, "event", (0, 9), (5, 3, 0, 3, "add", 5))])
        self.assertEqual(steps(one), [[], []])
        self.assertEqual(one.states(), {0: (10,), 2: (5,)})

    def test_further_cancellations_are_done_after_those_that_are_due_already(self):
        one = processor("relay out add", ((3, 0, "relay", 0),), (0, 1, 1, 1, 0))
        self.assertEqual(steps(one), [
            [(0, 1, 1, 0, "event", (0, 1), (6, 1, 0, 1, "add", 0))],
            [(0, 1, 2, 0, "event", (0, 2), (5, 1, 4, 0, "add", 0))]])
        # The own event (0, 0) is removed first, and makes (0, 2) due, but (0, 1) is due already.
        self.assertEqual(one.receive(brought(0, (2, 0, 1, 0, "add", 4))), [
            (0, 1, 3, 0, "anti", (0, 1), (6, 1, 0, 1, "add", 0)),
            (0, 1, 4, 0, "anti", (0, 2), (5, 1, 4, 0, "add", 0))])
        self.assertEqual((one.kept(), one.states()), (0, {0: (0,), 4: (0,)}))

    def test_an_anti_takes_back_what_its_instance_did(self):
        one = processor("out add", (), (0, 1))
        event = (2, 0, 1, 0, "out", 0)
        self.assertEqual(one.receive(brought(0, event)), [])
        self.assertEqual(steps(one), [[(0, 1, 0, 0, "event", (0, 0), (3, 1, 0, 0, "add", 0))]])
        self.assertEqual(one.receive(revoked(1, (1, 0), event)), [
            (0, 1, 1, 0, "anti", (0, 0), (3, 1, 0, 0, "add", 0))])
        self.assertEqual((one.low(), one.kept()), (51, 0))

    def test_an_anti_removes_a_waiting_instance(self):
        one = processor("add", ((4, 0, "add", 1),), (0, 1))
        one.receive(brought(0, (2, 0, 1, 0, "add", 5)))
        one.receive(brought(1, (3, 0, 1, 1, "add", 6)))
        self.assertEqual(one.receive(revoked(2, (1, 0), (2, 0, 1, 0, "add", 5))), [])
        self.assertEqual(one.low(), 3)
        steps(one)
        self.assertEqual(one.states(), {0: (7,)})

    def test_marks_of_other_sources_are_different_instances(self):
        one = processor("add", (), (0, 1, 2))
        one.receive(brought(0, (2, 0, 1, 0, "add", 5), source=1))
        one.receive(brought(0, (2, 0, 2, 0, "add", 6), source=2))
        one.receive(revoked(1, (1, 0), (2, 0, 1, 0, "add", 5)))
        steps(one)
        self.assertEqual(one.states(), {0: (6,)})


class LetterTest(unittest.TestCase):
    def test_a_letter_that_is_received_again_has_no_effect(self):
        for lazy in (False, True):
            one = processor("plus", (), (0, 1), lazy=lazy)
            letter = brought(0, (2, 0, 1, 0, "plus", 5))
            one.receive(letter)
            self.assertEqual(one.receive(letter), [])
            self.assertEqual(len(steps(one)), 1)
            self.assertEqual(one.receive(letter), [])
            self.assertEqual((one.states(), one.low(), one.kept()), ({0: (5,)}, 51, 1))
            anti = revoked(1, (1, 0), (2, 0, 1, 0, "plus", 5))
            self.assertEqual(one.receive(anti), [(0, 1, 1, 0, "anti", (0, 0), (4, 1, 0, 0, "add", 7))])
            for again in (anti, letter):
                self.assertEqual(one.receive(again), [])
                self.assertEqual((one.states(), one.low(), one.kept()), ({0: (0,)}, 51, 0))

    def test_the_same_number_of_another_source_is_another_letter(self):
        one = processor("add", (), (0, 1, 2))
        one.receive(brought(3, (2, 0, 1, 0, "add", 5), source=1))
        one.receive(brought(3, (2, 0, 2, 0, "add", 6), source=2))
        self.assertEqual(len(steps(one)), 2)

    def test_an_anti_ahead_of_its_event(self):
        for lazy in (False, True):
            one = processor("plus", ((9, 0, "plus", 3),), (0, 1), lazy=lazy)
            event = (2, 0, 1, 0, "plus", 5)
            steps(one)
            self.assertEqual(one.receive(revoked(8, (1, 4), event)), [])
            self.assertEqual((one.low(), one.kept()), (2, 1))
            self.assertEqual(one.receive(revoked(8, (1, 4), event)), [])
            self.assertEqual(one.receive(brought(4, event)), [])
            self.assertEqual((one.low(), one.kept(), one.step()), (51, 1, None))
            self.assertEqual(one.receive(brought(4, event)), [])
            self.assertEqual(one.receive(revoked(8, (1, 4), event)), [])
            self.assertEqual((one.low(), one.kept(), one.step()), (51, 1, None))

    def test_an_anti_waits_for_its_own_instance_only(self):
        one = processor("plus", (), (0, 1))
        event = (2, 0, 1, 0, "plus", 5)
        one.receive(revoked(8, (1, 4), event))
        one.receive(brought(5, event))
        self.assertEqual(len(steps(one)), 1)
        self.assertEqual(one.low(), 2)
        self.assertEqual(one.receive(brought(4, event)), [])
        self.assertEqual((one.step(), one.low()), (None, 51))

    def test_letters_have_the_round_of_their_source(self):
        one = processor("plus", ((1, 0, "plus", 1), (2, 0, "plus", 1), (3, 0, "plus", 1)), (0, 1))
        self.assertEqual([letter[3] for letter in one.step()], [0])
        one.visit((1, 0, 51, 0))
        self.assertEqual([letter[3] for letter in one.step()], [1])
        one.visit((4, 0, 51, 0))
        self.assertEqual([letter[3] for letter in one.step()], [4])
        # The antis have the round of now, not that of the events; the round of the received letter does not matter.
        letters = one.receive(brought(0, (0, 0, 1, 0, "plus", 1), turn=9))
        self.assertEqual([letter[2:6] for letter in letters], [
            (3, 4, "anti", (0, 0)), (4, 4, "anti", (0, 1)), (5, 4, "anti", (0, 2))])

    def test_receive_and_visit_do_not_change_their_arguments(self):
        one = processor("add", (), (0, 1))
        letter = brought(0, (2, 0, 1, 0, "add", 5))
        token = (1, 0, 51, 0)
        one.receive(letter)
        one.visit(token)
        self.assertEqual((letter, token), (brought(0, (2, 0, 1, 0, "add", 5)), (1, 0, 51, 0)))


class LazyTest(unittest.TestCase):
    def test_what_is_sent_again_is_neither_cancelled_nor_sent(self):
        one = processor("plus add", ((3, 0, "plus", 1),), (0, 1), lazy=True)
        one.step()
        self.assertEqual(one.receive(brought(7, (1, 0, 1, 0, "add", 5))), [])
        self.assertEqual(steps(one), [[], []])
        self.assertEqual(one.states(), {0: (6,)})
        self.assertEqual(one.receive(brought(8, (2, 0, 1, 1, "plus", 2))), [])
        # The first instance sends what the second one had sent, but earlier, and the second one has another count.
        self.assertEqual(one.step(), [(0, 1, 1, 0, "event", (0, 1), (4, 1, 0, 0, "add", 7))])
        self.assertEqual(one.step(), [
            (0, 1, 2, 0, "event", (0, 2), (5, 1, 0, 1, "add", 7)),
            (0, 1, 3, 0, "anti", (0, 0), (5, 1, 0, 0, "add", 7))])

    def test_overdue_events_are_cancelled_behind_the_letters_and_ahead_of_the_own_events(self):
        one = processor("spread add", ((3, 0, "spread", 0),), (0, 1, 0, 2), lazy=True)
        self.assertEqual(len(steps(one)), 3)
        self.assertEqual(one.kept(), 3)
        self.assertEqual(one.receive(brought(7, (1, 0, 1, 0, "add", 5))), [])
        # At 0 the event (0, 0) was taken back; at 2 the event (0, 2) is still processed.
        self.assertEqual((one.kept(), one.low()), (1, 1))
        self.assertEqual(one.step(), [])
        self.assertEqual(one.step(), [
            (0, 1, 5, 0, "event", (0, 5), (5, 1, 0, 1, "add", 5)),
            (0, 2, 7, 0, "event", (0, 7), (5, 3, 0, 3, "add", 5)),
            (0, 1, 8, 0, "anti", (0, 1), (5, 1, 0, 1, "add", 0)),
            (0, 2, 9, 0, "anti", (0, 3), (5, 3, 0, 3, "add", 0))])
        self.assertEqual((one.kept(), one.low()), (2, 6))
        self.assertEqual(steps(one), [[], []])
        self.assertEqual(one.states(), {0: (10,), 2: (5,)})

    def test_own_events_are_inserted_behind_the_cancellation_of_overdue_ones(self):
        # `relay` at 0 sends 4 an own event, whose `out` sends on; with another sum both change.
        one = processor("relay out add", ((3, 0, "relay", 0), (1, 4, "add", 2)), (0, 1, 1, 1, 0), lazy=True)
        self.assertEqual(steps(one), [
            [],
            [(0, 1, 1, 0, "event", (0, 1), (6, 1, 0, 1, "add", 0))],
            [(0, 1, 2, 0, "event", (0, 2), (5, 1, 4, 0, "add", 2))]])
        self.assertEqual(one.receive(brought(0, (2, 0, 1, 0, "add", 4))), [])
        self.assertEqual(one.step(), [])
        # The overdue events are (0, 0), an own one, and (0, 1). The removal of the first makes (0, 2) due.
        self.assertEqual(one.step(), [
            (0, 1, 4, 0, "event", (0, 4), (6, 1, 0, 1, "add", 4)),
            (0, 1, 5, 0, "anti", (0, 1), (6, 1, 0, 1, "add", 0)),
            (0, 1, 6, 0, "anti", (0, 2), (5, 1, 4, 0, "add", 2))])
        self.assertEqual(one.step(), [(0, 1, 7, 0, "event", (0, 7), (5, 1, 4, 0, "add", 2))])

    def test_an_anti_makes_events_overdue(self):
        one = processor("out add", (), (0, 1), lazy=True)
        event = (2, 0, 1, 0, "out", 0)
        one.receive(brought(0, event))
        one.step()
        self.assertEqual(one.receive(brought(1, (1, 0, 1, 1, "add", 3))), [])
        self.assertEqual(one.receive(revoked(2, (1, 0), event)), [])
        self.assertEqual(one.receive(revoked(3, (1, 1), (1, 0, 1, 1, "add", 3))), [
            (0, 1, 1, 0, "anti", (0, 0), (3, 1, 0, 0, "add", 0))])

    def test_an_insertion_takes_back_without_cancelling(self):
        start = ((5, 2, "relay", 0), (5, 3, "out", 0))
        one = processor("relay out fork add", start, (0, 1, 0, 0, 0), lazy=True)
        steps(one)
        one.receive(brought(0, (1, 0, 1, 0, "fork", 0)))
        self.assertEqual(one.step(), [])
        self.assertEqual(one.step(), [])
        self.assertEqual(one.step(), [])
        # `relay` at 2 has another sum now.
        self.assertEqual(one.step(), [
            (0, 1, 7, 0, "event", (0, 7), (8, 1, 2, 1, "add", 1)),
            (0, 1, 8, 0, "anti", (0, 1), (8, 1, 2, 1, "add", 0)),
            (0, 1, 9, 0, "anti", (0, 3), (7, 1, 4, 0, "add", 0))])


class LowTest(unittest.TestCase):
    def test_nothing_waits(self):
        self.assertEqual(processor("add", (), (0, 1), end=0).low(), 1)
        self.assertEqual(processor("add", (), (0, 1), end=50).low(), 51)

    def test_the_least_time_of_all_sites(self):
        one = processor("add", ((6, 0, "add", 1), (5, 1, "add", 1), (4, 2, "add", 1), (9, 2, "add", 1)), (0, 1, 0))
        self.assertEqual(one.low(), 4)
        one.step()
        self.assertEqual(one.low(), 6)
        one.step()
        self.assertEqual(one.low(), 9)
        one.step()
        self.assertEqual(one.low(), 51)

    def test_at_most_the_end_and_one(self):
        one = processor("add", (), (0, 1), end=10)
        for number, time in ((0, 30), (1, 12)):
            one.receive(brought(number, (time, 0, 1, number, "add", 1)))
            self.assertEqual(one.low(), 11)
        one.receive(brought(2, (11, 0, 1, 2, "add", 1)))
        self.assertEqual(one.low(), 11)
        one.receive(brought(3, (10, 0, 1, 3, "add", 1)))
        self.assertEqual(one.low(), 10)

    def test_waiting_antis(self):
        one = processor("add", ((6, 0, "add", 1),), (0, 1), end=10)
        one.receive(revoked(9, (1, 1), (8, 0, 1, 1, "add", 1)))
        self.assertEqual(one.low(), 6)
        one.receive(revoked(8, (1, 2), (5, 0, 1, 2, "add", 1)))
        self.assertEqual(one.low(), 5)
        one.receive(revoked(7, (1, 3), (3, 0, 1, 3, "add", 1)))
        self.assertEqual(one.low(), 3)
        one.step()
        self.assertEqual(one.low(), 3)
        one.receive(brought(3, (3, 0, 1, 3, "add", 1)))
        self.assertEqual(one.low(), 5)
        one.receive(brought(2, (5, 0, 1, 2, "add", 1)))
        self.assertEqual(one.low(), 8)
        one.receive(revoked(6, (1, 4), (30, 0, 1, 4, "add", 1)))
        one.receive(brought(1, (8, 0, 1, 1, "add", 1)))
        self.assertEqual(one.low(), 11)


class VisitTest(unittest.TestCase):
    def test_a_visit_of_a_processor_that_did_nothing(self):
        one = processor("add", ((6, 0, "add", 1),), (0, 1))
        self.assertEqual(one.visit((1, 0, 51, 0)), (1, 0, 6, 0))
        self.assertEqual(one.visit((1, 5, 4, 0)), (1, 5, 4, 0))
        self.assertEqual(one.visit((2, -3, 6, 0)), (2, -3, 6, 0))

    def test_the_horizon_is_taken_over_if_it_is_greater(self):
        one = processor("add", ((1, 0, "add", 1), (6, 0, "add", 1)), (0, 1))
        one.step()
        for given, horizon in ((0, 0), (3, 3), (3, 3), (2, 3), (0, 3), (4, 4), (51, 51), (6, 51)):
            token = one.visit((1, 0, 51, given))
            self.assertEqual(token[3], given)
            self.assertEqual(one.horizon(), horizon)

    def test_the_sum_of_letters_of_earlier_rounds(self):
        start = tuple((time, 0, "plus", 1) for time in range(1, 9))
        one = processor("plus", start, (0, 1))
        one.step()
        one.step()
        self.assertEqual(one.visit((1, 0, 51, 0))[1], 2)
        one.step()
        # The letter with the round 1 does not count in the round 1, but in later ones.
        self.assertEqual(one.visit((1, 0, 51, 0))[1], 2)
        self.assertEqual(one.visit((1, 40, 51, 0))[1], 42)
        self.assertEqual(one.visit((2, 0, 51, 0))[1], 3)
        one.step()
        one.step()
        self.assertEqual(one.visit((2, -3, 51, 0))[1], 0)
        self.assertEqual(one.visit((7, 0, 51, 0))[1], 5)

    def test_received_letters_are_subtracted(self):
        one = processor("add", (), (0, 1))
        one.receive(brought(0, (2, 0, 1, 0, "add", 5), turn=0))
        one.receive(brought(1, (3, 0, 1, 1, "add", 5), turn=1))
        one.receive(brought(2, (4, 0, 1, 2, "add", 5), turn=3))
        found = [one.visit((turn, 0, 51, 0))[1] for turn in (1, 2, 3, 4)]
        self.assertEqual(found, [-1, -2, -2, -3])

    def test_letters_that_are_received_again_do_not_count(self):
        one = processor("add", (), (0, 1))
        event = (2, 0, 1, 0, "add", 5)
        for letter in (revoked(3, (1, 0), event), brought(0, event)):
            for _ in range(3):
                one.receive(letter)
        self.assertEqual(one.visit((1, 0, 51, 0))[1], -2)

    def test_antis_count(self):
        one = processor("spread add", ((3, 0, "spread", 0),), (0, 1, 0, 2))
        one.step()
        one.receive(brought(7, (1, 0, 1, 0, "add", 5)))
        self.assertEqual(one.visit((1, 0, 51, 0))[1], 2 + 2 - 1)

    def test_events_for_own_objects_do_not_count(self):
        one = processor("spread add", ((3, 0, "spread", 0),), (0, 0, 0, 0))
        steps(one)
        self.assertEqual(one.visit((1, 0, 51, 0)), (1, 0, 51, 0))

    def test_the_least_time_in_letters_of_the_round(self):
        start = ((1, 0, "plus", 1), (4, 0, "plus", 1), (6, 0, "plus", 1), (40, 0, "plus", 1))
        one = processor("plus", start, (0, 1))
        one.step()
        # What was sent before the round does not count.
        self.assertEqual(one.visit((1, 0, 51, 0))[2], 4)
        one.step()
        self.assertEqual(one.visit((1, 0, 51, 0))[2], 6)
        one.step()
        # The least event of the letters is that at the time 6, and not reset by a visit in the same round.
        self.assertEqual(one.visit((1, 0, 51, 0))[2], 6)
        self.assertEqual(one.visit((1, 0, 5, 0))[2], 5)
        self.assertEqual(one.visit((2, 0, 51, 0))[2], 40)
        one.step()
        self.assertEqual(one.visit((2, 0, 51, 0))[2], 42)

    def test_the_least_time_in_antis_of_the_round(self):
        one = processor("plus add", ((3, 0, "plus", 1),), (0, 1))
        one.step()
        one.visit((1, 0, 51, 0))
        event = (2, 0, 1, 0, "add", 1)
        one.receive(brought(0, event))
        steps(one)
        # Sent in the round: the anti and the new event at the time 5.
        self.assertEqual(one.visit((1, 0, 51, 0))[2], 5)
        one = processor("out add", (), (0, 1))
        event = (2, 0, 1, 0, "out", 0)
        one.receive(brought(0, event))
        one.step()
        one.visit((1, 0, 51, 0))
        one.receive(revoked(1, (1, 0), event))
        self.assertEqual(one.visit((1, 0, 51, 0))[2], 3)

    def test_the_low_is_never_more_than_the_end_and_one(self):
        one = processor("plus", ((9, 0, "plus", 1),), (0, 1), end=9)
        one.visit((1, 0, 10, 0))
        one.step()
        self.assertEqual(one.visit((1, 1, 10, 0)), (1, 1, 10, 0))

    def test_the_horizon_is_taken_over_before_the_low_is_read(self):
        one = processor("add", ((1, 0, "add", 1), (6, 0, "add", 1)), (0, 1))
        one.step()
        self.assertEqual(one.visit((3, 0, 51, 5)), (3, 0, 6, 5))
        self.assertEqual(one.committed(), [(1, 0, -1, 0, "add", 1)])


class HorizonTest(unittest.TestCase):
    def test_committed_events_of_all_sites(self):
        start = ((1, 2, "add", 1), (3, 0, "add", 2), (1, 0, "add", 3), (5, 2, "add", 4), (2, 1, "add", 5))
        for lazy in (False, True):
            one = processor("add", start, (0, 1, 0), lazy=lazy)
            steps(one)
            self.assertEqual(one.committed(), [])
            one.visit((1, 0, 51, 3))
            self.assertEqual(one.committed(), [(1, 0, -1, 2, "add", 3), (1, 2, -1, 0, "add", 1)])
            one.visit((2, 0, 51, 1))
            self.assertEqual(len(one.committed()), 2)
            one.visit((2, 0, 51, 4))
            self.assertEqual(one.committed()[2:], [(3, 0, -1, 1, "add", 2)])
            one.visit((3, 0, 51, 51))
            self.assertEqual([event[0] for event in one.committed()], [1, 1, 3, 5])
            self.assertEqual(one.states(), {0: (5,), 2: (5,)})

    def test_kept_records(self):
        start = tuple((time, number, "add", 1) for time in range(6) for number in (0, 1))
        for lazy in (False, True):
            for interval, kept in ((1, [12, 12, 10, 6, 2, 2]), (2, [12, 12, 12, 8, 4, 4]), (4, [12, 12, 12, 12, 4, 4]),
                                   (8, [12] * 6)):
                one = processor("add", start, (0, 0), interval=interval, lazy=lazy)
                steps(one)
                found = []
                for turn, horizon in enumerate((0, 0, 1, 3, 5, 51)):
                    one.visit((turn + 1, 0, 51, horizon))
                    found.append(one.kept())
                self.assertEqual(found, kept)
                self.assertEqual(one.states(), {0: (6,), 1: (6,)})

    def test_a_horizon_that_is_not_greater_throws_nothing_away(self):
        one = processor("add", ((1, 0, "add", 1), (2, 0, "add", 1), (5, 0, "add", 1)), (0,), window=3)
        steps(one)
        one.visit((1, 0, 51, 3))
        steps(one)
        # The horizon 3 would now throw away what was kept for the event at 2, as that at 5 has a saved state.
        for horizon, kept in ((3, 2), (2, 2), (4, 1)):
            one.visit((2, 0, 51, horizon))
            self.assertEqual(one.kept(), kept)

    def test_kept_without_records(self):
        one = processor("add", ((4, 0, "add", 1),), (0, 1))
        self.assertEqual(one.kept(), 0)
        one.visit((1, 0, 51, 4))
        self.assertEqual((one.kept(), one.committed(), one.horizon()), (0, [], 4))
        one.step()
        self.assertEqual((one.kept(), one.committed()), (1, []))

    def test_taking_back_behind_a_raised_horizon(self):
        for lazy in (False, True):
            for interval in (1, 2, 3, 8):
                one = processor("plus add", tuple((time, 0, "plus", 1) for time in range(8)), (0, 1),
                                interval=interval, lazy=lazy)
                steps(one)
                one.visit((1, 0, 51, 5))
                letters = one.receive(brought(0, (5, 0, 1, 0, "add", 4)))
                numbers = [letter[5][1] for letter in letters]
                self.assertEqual(numbers, [] if lazy else [6, 7])
                self.assertEqual(one.states(), {0: (6,)})
                self.assertEqual([len(sent) for sent in steps(one)], [0, 0, 0] if lazy else [0, 1, 1])
                self.assertEqual(one.states(), {0: (12,)})


if __name__ == "__main__":
    unittest.main()
