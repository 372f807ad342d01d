import random
import unittest

from tests.samples import ONE, SKIP, random_model, with_program
from vancourier.forms import check_model, first_state
from vancourier.meaning import run_handler
from vancourier.plain import Plain, run_plain, start_events

N = ("field", "n")
ADD = ("set", "n", ("add", N, ("arg",)))


def send(target, delay, arg, name="go"):
    return ("send", ("int", target), ("int", delay), name, arg)


def model_of(program, start, objects=2, end=50):
    kinds, names, _, _ = with_program(program, ("box",) * objects)
    return check_model((kinds, names, start, end))


def all_steps(plain):
    """Returns what the steps of a plain simulation return, until one returns None."""
    events = []
    event = plain.step()
    while event is not None:
        events.append(event)
        event = plain.step()
    return events


def slow_history(model):
    """Returns the history and the states of a model, worked out with a set of waiting events."""
    kinds, objects, start, end = model
    waiting = {(time, target, -1, count, name, arg) for count, (time, target, name, arg) in enumerate(start)}
    states = [first_state(model, number) for number in range(len(objects))]
    counts = [0] * len(objects)
    history = []
    while waiting and min(waiting)[0] <= end:
        event = min(waiting)
        waiting.remove(event)
        history.append(event)
        time, target, _, _, name, arg = event
        states[target], sends = run_handler(model, target, states[target], time, name, arg)
        for when, receiver, word, worth in sends:
            waiting.add((when, receiver, target, counts[target], word, worth))
            counts[target] += 1
    return history, states, sorted(waiting)


class StartTest(unittest.TestCase):
    def test_the_sender_is_minus_one_and_the_count_the_index(self):
        model = model_of((SKIP,), ((0, 1, "go", 5), (3, 0, "tell", -999), (3, 1, "go", 0)))
        self.assertEqual(start_events(model), [
            (0, 1, -1, 0, "go", 5), (3, 0, -1, 1, "tell", -999), (3, 1, -1, 2, "go", 0)])

    def test_the_list_is_ascending(self):
        model = model_of((SKIP,), ((9, 0, "a", 1), (2, 1, "b", 2), (2, 0, "z", 3), (0, 1, "y", 4), (2, 0, "a", 0)))
        self.assertEqual(start_events(model), [
            (0, 1, -1, 3, "y", 4), (2, 0, -1, 2, "z", 3), (2, 0, -1, 4, "a", 0), (2, 1, -1, 1, "b", 2),
            (9, 0, -1, 0, "a", 1)])

    def test_equal_start_events_differ_in_the_count(self):
        model = model_of((SKIP,), ((1, 0, "go", 1), (1, 0, "go", 1)))
        self.assertEqual(start_events(model), [(1, 0, -1, 0, "go", 1), (1, 0, -1, 1, "go", 1)])

    def test_no_start_and_a_new_list_each_time(self):
        self.assertEqual(start_events(model_of((SKIP,), ())), [])
        model = model_of((SKIP,), ((1, 0, "go", 1),))
        start_events(model).clear()
        self.assertEqual(start_events(model), [(1, 0, -1, 0, "go", 1)])


class StepTest(unittest.TestCase):
    def test_at_the_beginning(self):
        model = model_of((SKIP,), ((4, 1, "go", 1), (3, 0, "go", 2)))
        plain = Plain(model)
        self.assertEqual(plain.history(), [])
        self.assertEqual(plain.states(), [(0,), (0,)])
        self.assertEqual(plain.waiting(), [(3, 0, -1, 1, "go", 2), (4, 1, -1, 0, "go", 1)])

    def test_the_first_states_are_nearest_to_zero(self):
        kinds = (("box", (("n", 3, 9), ("m", -9, -2)), ()), ("cup", (("k", -1, 1),), ()))
        model = check_model((kinds, ("cup", "box"), (), 5))
        self.assertEqual(Plain(model).states(), [(0,), (3, -2)])

    def test_a_step_processes_the_least_event_and_returns_it(self):
        plain = Plain(model_of((ADD,), ((4, 1, "go", 1), (3, 0, "go", 2))))
        self.assertEqual(plain.step(), (3, 0, -1, 1, "go", 2))
        self.assertEqual(plain.states(), [(2,), (0,)])
        self.assertEqual(plain.history(), [(3, 0, -1, 1, "go", 2)])
        self.assertEqual(plain.waiting(), [(4, 1, -1, 0, "go", 1)])
        self.assertEqual(plain.step(), (4, 1, -1, 0, "go", 1))
        self.assertEqual(plain.states(), [(2,), (1,)])
        self.assertIsNone(plain.step())

    def test_sent_events_have_their_sender_and_count(self):
        program = (send(0, 3, ("arg",), "tell"), send(1, 2, ("int", 7), "nobody"))
        plain = Plain(model_of(program, ((0, 1, "go", 5), (1, 1, "go", 6))))
        plain.step()
        self.assertEqual(plain.waiting(), [
            (1, 1, -1, 1, "go", 6), (2, 1, 1, 1, "nobody", 7), (3, 0, 1, 0, "tell", 5)])
        plain.step()
        self.assertEqual(plain.waiting(), [
            (2, 1, 1, 1, "nobody", 7), (3, 0, 1, 0, "tell", 5), (3, 1, 1, 3, "nobody", 7), (4, 0, 1, 2, "tell", 6)])

    def test_each_object_counts_its_own_events(self):
        program = (send(0, 1, ONE, "tell"),)
        plain = Plain(model_of(program, ((0, 0, "go", 0), (0, 1, "go", 0), (0, 0, "go", 0))))
        all_steps(plain)
        self.assertEqual(plain.history()[3:], [
            (1, 0, 0, 0, "tell", 1), (1, 0, 0, 1, "tell", 1), (1, 0, 1, 0, "tell", 1)])

    def test_events_are_ordered_as_tuples(self):
        # At time 5 there meet: several targets, several senders of one target, several counts of one sender.
        program = (("if", ("less", ("now",), ONE), (send(1, 5, ("int", 9), "b"), send(1, 5, ("int", 1), "a")), (SKIP,)),)
        start = ((0, 2, "go", 0), (0, 0, "go", 0), (5, 1, "z", 9), (5, 0, "y", 0), (5, 1, "c", 0), (5, 2, "a", 0))
        model = model_of(program, start, objects=3)
        self.assertEqual(all_steps(Plain(model)), [
            (0, 0, -1, 1, "go", 0), (0, 2, -1, 0, "go", 0),
            (5, 0, -1, 3, "y", 0),
            (5, 1, -1, 2, "z", 9), (5, 1, -1, 4, "c", 0),
            (5, 1, 0, 0, "b", 9), (5, 1, 0, 1, "a", 1),
            (5, 1, 2, 0, "b", 9), (5, 1, 2, 1, "a", 1),
            (5, 2, -1, 5, "a", 0)])

    def test_a_sent_event_goes_between_the_waiting_ones(self):
        program = (("if", ("same", ("arg",), ("int", 1)), (send(0, 2, ("int", 8)),), (ADD,)),)
        plain = Plain(model_of(program, ((0, 0, "go", 1), (1, 0, "go", 3), (4, 0, "go", 5))))
        self.assertEqual([event[0] for event in all_steps(plain)], [0, 1, 2, 4])
        self.assertEqual(plain.states()[0], (16,))

    def test_an_event_at_the_end_is_processed_and_one_behind_it_waits(self):
        program = (ADD, send(0, 5, ONE))
        plain = Plain(model_of(program, ((0, 0, "go", 1), (10, 1, "go", 2)), end=10))
        self.assertEqual([event[0] for event in all_steps(plain)], [0, 5, 10, 10])
        self.assertEqual(plain.waiting(), [(15, 0, 0, 2, "go", 1), (15, 0, 1, 0, "go", 1)])
        self.assertIsNone(plain.step())
        self.assertEqual(len(plain.history()), 4)
        self.assertEqual(plain.states(), [(3,), (2,)])
        self.assertEqual(len(plain.waiting()), 2)

    def test_the_end_zero(self):
        plain = Plain(model_of((send(0, 1, ONE),), ((0, 0, "go", 1),), end=0))
        self.assertEqual(all_steps(plain), [(0, 0, -1, 0, "go", 1)])
        self.assertEqual(plain.waiting(), [(1, 0, 0, 0, "go", 1)])

    def test_nothing_to_process(self):
        plain = Plain(model_of((SKIP,), ()))
        self.assertIsNone(plain.step())
        self.assertEqual((plain.history(), plain.waiting()), ([], []))

    def test_an_event_without_a_handler_is_processed(self):
        plain = Plain(model_of((ADD,), ((1, 0, "nobody", 7),)))
        self.assertEqual(plain.step(), (1, 0, -1, 0, "nobody", 7))
        self.assertEqual((plain.states(), plain.waiting()), ([(0,), (0,)], []))


class ListsTest(unittest.TestCase):
    def test_a_change_of_a_returned_list_does_not_change_the_simulation(self):
        model = model_of((ADD, send(1, 3, ("arg",))), ((0, 0, "go", 1), (1, 1, "go", 2)), end=9)
        plain = Plain(model)
        plain.step()
        before = (plain.history(), plain.states(), plain.waiting())
        for name in ("history", "states", "waiting"):
            getattr(plain, name)().clear()
            getattr(plain, name)().append(None)
        self.assertEqual((plain.history(), plain.states(), plain.waiting()), before)
        all_steps(plain)
        self.assertEqual(plain.history(), run_plain(model).history())

    def test_returned_lists_do_not_change_with_the_simulation(self):
        plain = Plain(model_of((ADD,), ((0, 0, "go", 1),)))
        before = (plain.history(), plain.states(), plain.waiting())
        plain.step()
        self.assertEqual(before, ([], [(0,), (0,)], [(0, 0, -1, 0, "go", 1)]))


class RunTest(unittest.TestCase):
    def test_run_plain_is_a_plain_after_all_its_steps(self):
        model = model_of((ADD, send(1, 3, ("arg",))), ((0, 0, "go", 1), (1, 1, "go", 2)), end=9)
        plain = Plain(model)
        events = all_steps(plain)
        ran = run_plain(model)
        self.assertIsInstance(ran, Plain)
        self.assertEqual(ran.history(), events)
        self.assertEqual((ran.states(), ran.waiting()), (plain.states(), plain.waiting()))
        self.assertIsNone(ran.step())

    def test_random_models(self):
        for seed in range(60):
            with self.subTest(seed=seed):
                model = random_model(random.Random(seed))
                ran = run_plain(model)
                history, states, waiting = slow_history(model)
                self.assertEqual(ran.history(), history)
                self.assertEqual(ran.states(), states)
                self.assertEqual(ran.waiting(), waiting)
                self.assertEqual(history, sorted(history))
                self.assertEqual(len({event[2:4] for event in history}), len(history))


if __name__ == "__main__":
    unittest.main()
