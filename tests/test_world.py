"""Worlds: how they begin, their acts, and what their methods return (points 170 to 172)."""

import random
import unittest

from tests.samples import GOOD, N, changed, paths, random_model
from tests.worlds import WEIGHTS, Ring, crowded_model, random_act, random_settings, view
from vancourier.errors import BadAct, BadModel, CourierError
from vancourier.forms import check_model
from vancourier.world import World, run_calm

# `go` counts, and sends to the next object 2 later; `tell` sends its argument back to object 0.
GO = (("set", "n", ("add", N, ("int", 1))), ("send", ("add", ("self",), ("int", 1)), ("int", 2), "go", ("arg",)))
TELL = (("set", "n", ("arg",)), ("send", ("int", 0), ("int", 1), "note", ("arg",)))
BOX = ("box", (("n", 0, 9), ("m", -3, -1)), (("go", GO), ("tell", TELL)))


def model_of(start, objects=2, end=9):
    return check_model(((BOX,), ("box",) * objects, start, end))


def world_of(start, placing=(0, 1), window=100, interval=1, lazy=False):
    return World(model_of(start, len(placing)), placing, window, interval, lazy)


def perform(world, *acts):
    for act in acts:
        world.act(act)
    return world


class BeginningTest(unittest.TestCase):
    def test_at_first(self):
        world = world_of(((0, 0, "go", 5), (3, 1, "go", 5)))
        self.assertEqual(view(world), ([], (1, 0, 10, 0), [0, 0], [], [(0, -1), (0, -1)], [0, 0], 2, False))

    def test_the_number_of_processors(self):
        for placing, many in (((0, 0), 1), ((1, 0), 2), ((7, 7), 8), ((0, 4), 5)):
            world = world_of((), placing)
            self.assertEqual(world.processors(), many)
            self.assertEqual((world.horizons(), world.kept()), ([0] * many, [0] * many))

    def test_bad_models(self):
        for value in (None, 7, "model", [], (), [*GOOD], GOOD[:3], GOOD + (1,), {}, True):
            with self.subTest(value=value), self.assertRaises(BadModel):
                World(value, (0, 1, 0), 5, 1, False)
        for path in paths(GOOD):
            for new in (None, True, [], 5000000, "Name", ()):
                model = changed(GOOD, path, new)
                try:
                    check_model(model)
                except BadModel:
                    with self.subTest(path=path, new=new), self.assertRaises(BadModel):
                        World(model, (0, 1, 0), 5, 1, False)

    def test_bad_placings(self):
        wrong = ((), (0,), (0, 0, 0), [0, 1], (0, 8), (0, -1), (0, True), (False, 0), (0, None), ("0", 1), (0, (1,)),
                 None, 0, "01", {}, True)
        for placing in wrong:
            with self.subTest(placing=placing), self.assertRaises(BadModel):
                World(model_of(()), placing, 5, 1, False)

    def test_a_bad_model_counts_before_a_bad_window(self):
        for model, placing in ((None, (0, 1)), (model_of(()), (0,))):
            with self.assertRaises(BadModel):
                World(model, placing, 0, 9, None)

    def test_windows(self):
        for window in (0, 1001, -1, 10 ** 9, True, False, None, "5", (5,), 5.0, [5]):
            with self.subTest(window=window), self.assertRaises(BadAct):
                world_of((), window=window)
        for window in (1, 2, 999, 1000):
            self.assertEqual(world_of((), window=window).token(), (1, 0, 10, 0))

    def test_intervals(self):
        for interval in (0, 9, -1, 10 ** 9, True, False, None, "5", (5,), 5.0, [5]):
            with self.subTest(interval=interval), self.assertRaises(BadAct):
                world_of((), interval=interval)
        for interval in (1, 2, 7, 8):
            self.assertEqual(world_of((), interval=interval).token(), (1, 0, 10, 0))

    def test_lazy(self):
        for lazy in (0, 1, None, "lazy", (), "", [True], 1.0):
            with self.subTest(lazy=lazy), self.assertRaises(BadAct):
                world_of((), lazy=lazy)

    def test_the_settings_take_effect(self):
        start = tuple((time, 0, "go", 1) for time in (0, 1, 2, 3))
        for window in (1, 2, 3, 4):
            world = world_of(start, window=window)
            for turn in range(window):
                self.assertIsNone(world.act(("step", 0)))
            if window < 4:
                with self.assertRaises(BadAct):
                    world.act(("step", 0))
        kept = []
        for interval in (1, 2, 3, 4):
            world = perform(world_of(start, (0, 0), 3, interval), ("step", 0), ("step", 0), ("step", 0))
            kept.append(perform(world, *[("hop",)] * 3).kept())
        # Processed at 0, 1 and 2 by object 0, of which 2 is behind the horizon: the last saved state is that of 2.
        self.assertEqual(kept, [[1], [1], [3], [3]])

    def test_eager_and_lazy(self):
        # Object 1 has sent to object 0 at the time 5, what it sends again when something at the time 2 comes late.
        start = ((0, 0, "go", 1), (4, 1, "tell", 7))
        found = []
        for lazy in (False, True):
            world = perform(world_of(start, lazy=lazy), ("step", 1), ("step", 0), ("move", 0), ("deliver", 0))
            found.append([letter[4:6] for letter in world.net()])
        self.assertEqual(found, [[("event", (1, 0)), ("anti", (1, 0))], [("event", (1, 0))]])

    def test_errors(self):
        self.assertEqual((BadAct.__base__, BadModel.__base__), (CourierError, CourierError))


class ActTest(unittest.TestCase):
    def setUp(self):
        self.world = world_of(((0, 0, "go", 5), (0, 1, "tell", 4), (1, 0, "go", 6), (9, 1, "quiet", 0)))
        self.a = (0, 1, 0, 0, "event", (0, 0), (2, 1, 0, 0, "go", 5))
        self.b = (0, 1, 1, 0, "event", (0, 1), (3, 1, 0, 1, "go", 6))
        self.c = (1, 0, 0, 0, "event", (1, 0), (1, 0, 1, 0, "note", 4))

    def test_step(self):
        self.assertIsNone(self.world.act(("step", 0)))
        self.assertEqual(self.world.net(), [self.a])
        self.assertEqual((self.world.states(), self.world.kept()), ([(1, -1), (0, -1)], [1, 0]))
        self.assertIsNone(self.world.act(("step", 1)))
        self.assertEqual(self.world.net(), [self.a, self.c])
        self.assertEqual((self.world.states(), self.world.kept()), ([(1, -1), (4, -1)], [1, 1]))
        self.world.act(("step", 0))
        self.assertEqual(self.world.net(), [self.a, self.c, self.b])
        self.assertEqual(self.world.states(), [(2, -1), (4, -1)])

    def test_step_that_is_not_possible(self):
        perform(self.world, ("step", 0), ("step", 0))
        before = view(self.world)
        with self.assertRaises(BadAct):
            self.world.act(("step", 0))
        self.assertEqual(view(self.world), before)
        self.world.act(("step", 1))

    def test_deliver(self):
        perform(self.world, ("step", 0), ("step", 1), ("step", 0))
        self.assertIsNone(self.world.act(("deliver", 2)))
        self.assertEqual(self.world.net(), [self.a, self.c])
        self.assertIsNone(self.world.act(("deliver", 0)))
        self.assertEqual(self.world.net(), [self.c])
        perform(self.world, ("step", 1), ("step", 1))
        self.assertEqual(self.world.states(), [(2, -1), (6, -1)])

    def test_the_letters_of_a_receiver_go_behind_all_others(self):
        perform(self.world, ("step", 0), ("step", 1), ("step", 0), ("deliver", 2), ("step", 1), ("double", 1))
        sent = (1, 0, 1, 0, "event", (1, 1), (5, 0, 1, 1, "go", 6))
        self.assertEqual(self.world.net(), [self.a, self.c, sent, self.c])
        # The letter a takes back what object 1 did at the time 3.
        self.world.act(("deliver", 0))
        anti = (1, 0, 2, 0, "anti", (1, 1), (5, 0, 1, 1, "go", 6))
        self.assertEqual(self.world.net(), [self.c, sent, self.c, anti])
        self.assertEqual(self.world.states(), [(2, -1), (4, -1)])

    def test_double(self):
        perform(self.world, ("step", 0), ("step", 1))
        self.assertIsNone(self.world.act(("double", 0)))
        self.assertEqual(self.world.net(), [self.a, self.c, self.a])
        self.world.act(("double", 1))
        self.assertEqual(self.world.net(), [self.a, self.c, self.a, self.c])

    def test_a_copy_has_no_effect_when_it_is_received(self):
        perform(self.world, ("step", 0), ("double", 0), ("deliver", 1), ("step", 1), ("step", 1), ("step", 1))
        before = view(self.world)
        self.world.act(("deliver", 0))
        self.assertEqual(view(self.world), (before[0][1:],) + before[1:])

    def test_move(self):
        perform(self.world, ("step", 0), ("step", 1), ("step", 0))
        self.assertIsNone(self.world.act(("move", 0)))
        self.assertEqual(self.world.net(), [self.c, self.b, self.a])
        self.world.act(("move", 1))
        self.assertEqual(self.world.net(), [self.c, self.a, self.b])
        self.world.act(("move", 2))
        self.assertEqual(self.world.net(), [self.c, self.a, self.b])

    def test_hop(self):
        perform(self.world, ("step", 0), ("step", 0), ("step", 1))
        self.assertIsNone(self.world.act(("hop",)))
        # Processor 0 has sent two letters in the round 0, and has nothing to do.
        self.assertEqual(self.world.token(), (1, 2, 10, 0))
        # Processor 1 has sent one, so the sum is 3: the round stays, the low does not become the horizon.
        self.world.act(("hop",))
        self.assertEqual(self.world.token(), (1, 0, 10, 0))
        perform(self.world, ("deliver", 0), ("deliver", 0), ("deliver", 0))
        perform(self.world, ("hop",))
        self.assertEqual(self.world.token(), (1, 1, 1, 0))
        perform(self.world, ("hop",))
        self.assertEqual((self.world.token(), self.world.horizons()), ((2, 0, 10, 1), [0, 0]))
        self.world.act(("hop",))
        self.assertEqual((self.world.token(), self.world.horizons()), ((2, 1, 1, 1), [1, 0]))
        self.assertEqual(self.world.committed(), [(0, 0, -1, 0, "go", 5)])
        self.world.act(("hop",))
        self.assertEqual((self.world.token(), self.world.horizons()), ((3, 0, 10, 1), [1, 1]))
        self.assertEqual(self.world.committed(), [(0, 0, -1, 0, "go", 5), (0, 1, -1, 1, "tell", 4)])

    def test_the_hop_of_one_processor_ends_the_tour(self):
        world = world_of(((4, 0, "go", 1),), (0, 0))
        found = []
        for _ in range(3):
            world.act(("hop",))
            found.append((world.token(), world.horizons()))
        self.assertEqual(found, [((2, 0, 10, 4), [0]), ((3, 0, 10, 4), [4]), ((4, 0, 10, 4), [4])])

    def test_hops_visit_the_processors_in_order(self):
        world = world_of((), (0, 3))
        for turn in range(1, 12):
            world.act(("hop",))
            self.assertEqual(world.horizons(), ([10] * max(0, turn - 4) + [0] * 4)[:4])


class BadActTest(unittest.TestCase):
    def setUp(self):
        start = ((0, 0, "go", 5), (0, 1, "tell", 4), (1, 0, "go", 6))
        self.world = perform(world_of(start, (0, 1, 3)), ("step", 0), ("step", 1), ("hop",))

    def check(self, *values):
        before = view(self.world)
        for value in values:
            with self.subTest(value=value):
                with self.assertRaises(BadAct):
                    self.world.act(value)
                self.assertEqual(view(self.world), before)

    def test_no_tuples(self):
        self.check(None, 0, True, "hop", "step", b"hop", {}, [], ["hop"], ["step", 0], ["deliver", 0], {"hop": 1})

    def test_other_words(self):
        self.check((), ("",), ("calm",), ("Hop",), ("hop ",), ("stop", 0), ("STEP", 0), ("send", 0), (0, "step"),
                   (None,), (None, 0), (1, 0), (("step", 0),), (["step"], 0), (b"step", 0), ("delive", 0), ("show", 0))

    def test_too_many_or_too_few_items(self):
        self.check(("step",), ("deliver",), ("double",), ("move",), ("hop", 0), ("hop", None), ("step", 0, 0),
                   ("deliver", 0, 0), ("double", 0, 1), ("move", 0, 1), ("hop", "hop"), ("step", 0, None))

    def test_no_integers(self):
        for worth in (True, False, None, "0", (), (0,), [0], 0.0, b"0", {}):
            self.check(("step", worth), ("deliver", worth), ("double", worth), ("move", worth))

    def test_processors_that_are_not_there(self):
        self.check(("step", 4), ("step", 5), ("step", -1), ("step", -4), ("step", 10 ** 9), ("step", -10 ** 9))

    def test_processors_that_can_do_nothing(self):
        self.check(("step", 1), ("step", 2), ("step", 3))

    def test_letters_that_are_not_there(self):
        self.assertEqual(len(self.world.net()), 2)
        for word in ("deliver", "double", "move"):
            self.check((word, 2), (word, 3), (word, -1), (word, -2), (word, -3), (word, 10 ** 9))
        perform(self.world, ("deliver", 1), ("deliver", 0))
        for word in ("deliver", "double", "move"):
            self.check((word, 0), (word, -1), (word, 1))

    def test_a_step_behind_the_window(self):
        world = perform(world_of(((5, 0, "go", 1),), window=5))
        with self.assertRaises(BadAct):
            world.act(("step", 0))
        perform(world, ("hop",), ("hop",), ("hop",), ("step", 0))
        self.assertEqual((world.horizons(), world.states()), ([5, 0], [(1, -1), (0, -1)]))

    def test_a_step_behind_the_end(self):
        world = perform(world_of(((8, 0, "go", 1),), (0, 0)), ("step", 0))
        with self.assertRaises(BadAct):
            world.act(("step", 0))
        self.assertEqual(world.states(), [(1, -1), (0, -1)])


class MethodsTest(unittest.TestCase):
    def test_lists_are_new(self):
        world = run_calm(model_of(((0, 0, "go", 5),)), (0, 1), 3, 2, False)
        other = perform(world_of(((0, 0, "go", 5),)), ("step", 0))
        for each in (world, other):
            before = view(each)
            for found in (each.net(), each.horizons(), each.committed(), each.states(), each.kept()):
                self.assertIsInstance(found, list)
                found.append(1)
                found.reverse()
            self.assertEqual(view(each), before)
            self.assertIs(type(each.done()), bool)
            self.assertIsInstance(each.token(), tuple)

    def test_states_are_in_the_order_of_the_objects(self):
        start = tuple((0, number, "tell", number + 1) for number in range(5))
        world = world_of(start, (2, 0, 1, 0, 2))
        for p in (2, 0, 1, 0, 2):
            world.act(("step", p))
        self.assertEqual(world.states(), [(1, -1), (2, -1), (3, -1), (4, -1), (5, -1)])
        self.assertEqual(world.kept(), [2, 1, 2])

    def test_committed_events_are_in_ascending_order(self):
        start = tuple((time, number, "quiet", 0) for time in (2, 0, 1) for number in (2, 1, 0))
        world = run_calm(model_of(start, 3), (1, 2, 0), 100, 1, False)
        found = [event[:2] for event in world.committed()]
        self.assertEqual(found, [(time, number) for time in range(3) for number in range(3)])

    def test_worlds_do_not_share_anything(self):
        first, second = [world_of(((0, 0, "go", 5),)) for _ in range(2)]
        before = view(second)
        perform(first, ("step", 0), ("hop",), ("deliver", 0))
        self.assertEqual(view(second), before)


class OtherWayTest(unittest.TestCase):
    """Worlds beside rings, whose acts and cycles the tests do in another way."""

    def check_run(self, seed):
        chance = random.Random(seed)
        model = crowded_model(chance) if seed % 2 else random_model(chance)
        settings = random_settings(chance, model)
        world, ring = World(model, *settings), Ring(model, *settings)
        weights = chance.choice(WEIGHTS)
        for _ in range(120):
            act = random_act(chance, world, weights)
            if ring.act(act):
                self.assertIsNone(world.act(act))
            else:
                with self.assertRaises(BadAct):
                    world.act(act)
            self.assertEqual(view(world), ring.view())
        for _ in range(2):
            self.assertIsNone(world.calm())
            ring.calm()
            self.assertEqual(view(world), ring.view())

    def test_random_acts(self):
        for seed in range(120):
            with self.subTest(seed=seed):
                self.check_run(seed)


if __name__ == "__main__":
    unittest.main()
