"""Calm cycles, and how the runs of worlds end (points 175 to 177)."""

import random
import unittest

from tests.samples import N, ONE, random_model
from tests.worlds import WEIGHTS, crowded_model, enough, random_act, random_placing, random_settings, view
from vancourier.errors import BadAct, BadModel
from vancourier.forms import check_model
from vancourier.plain import run_plain
from vancourier.world import World, run_calm

GO = (("set", "n", ("add", N, ONE)), ("send", ("add", ("self",), ONE), ("int", 2), "go", ("arg",)))
RING = ("box", (("n", 0, 99),), (("go", GO),))
DOCUMENTED = ((("box", (("n", 0, 9),), (("go", GO),)),), ("box", "box"), ((0, 0, "go", 5),), 5)

# Object 0 sends to all four objects at the next time, as long as its argument is not 0.
BURST = tuple(("send", ("int", k), ONE, "go", ("sub", ("arg",), ONE)) for k in range(4))
BURST_KIND = ("box", (("n", 0, 99),), (("go", (("set", "n", ("add", N, ONE)), ("if", ("arg",), BURST, (("skip",),)))),))


def ring_model(start, objects=3, end=20):
    return check_model(((RING,), ("box",) * objects, start, end))


def pass_acts(chance, world, number):
    """Performs random acts, as far as they are possible."""
    weights = chance.choice(WEIGHTS)
    for _ in range(number):
        try:
            world.act(random_act(chance, world, weights))
        except BadAct:
            pass


def watch_all(world):
    """Returns a list that grows by what the processors of a world do."""
    made = []
    for p, one in enumerate(world.ring):
        watch(p, one, made)
    return made


def watch(p, one, made):
    step, receive = one.step, one.receive

    def watched_step():
        letters = step()
        made.append(f"{'idle' if letters is None else 'step'} {p}")
        return letters

    def watched_receive(letter):
        made.append(f"letter {p}")
        return receive(letter)

    one.step, one.receive = watched_step, watched_receive


class CalmCycleTest(unittest.TestCase):
    def test_a_cycle_returns_none_and_does_all_that_can_be_done(self):
        world = World(ring_model(((0, 0, "go", 1),)), (0, 1, 2), 7, 1, False)
        self.assertIsNone(world.calm())
        self.assertEqual(world.net(), [])
        # Processed are the events at 0, 2, 4 and 6, so the least waiting one is at 8.
        self.assertEqual((world.states(), world.horizons()), ([(2,), (1,), (1,)], [8, 8, 8]))
        world.calm()
        self.assertEqual((world.states(), world.horizons()), ([(3,), (3,), (2,)], [16, 16, 16]))

    def test_the_hops_of_a_cycle(self):
        for placing, many in (((0, 0, 0), 1), ((0, 1, 0), 2), ((2, 1, 0), 3), ((7, 0, 0), 8)):
            world = World(ring_model(()), placing, 5, 1, False)
            for cycle in range(1, 4):
                world.calm()
                # Four tours, all with the sum 0.
                self.assertEqual(world.token(), (1 + 4 * cycle, 0, 21, 21))
            world.act(("hop",))
            world.calm()
            turn = world.token()[0]
            self.assertEqual(turn, 13 + 4 + (many == 1))

    def test_all_letters_are_delivered_before_the_steps(self):
        # Without the letter, which is delivered first, object 1 would process the event at 9 first.
        world = World(ring_model(((0, 0, "go", 1), (9, 1, "go", 1))), (0, 1, 1), 1000, 1, False)
        world.act(("step", 0))
        made = watch_all(world)
        world.calm()
        self.assertEqual(made[:4], ["letter 1", "idle 0", "step 1", "idle 0"])
        self.assertTrue(world.done())

    def test_each_processor_makes_one_step_and_then_letters_are_delivered(self):
        model = check_model(((BURST_KIND,), ("box",) * 4, ((0, 0, "go", 2), (3, 3, "go", 0)), 9))
        world = World(model, (0, 1, 2, 3), 1000, 1, False)
        made = watch_all(world)
        world.calm()
        self.assertEqual(made[:9], ["step 0", "idle 1", "idle 2", "step 3", "letter 1", "letter 2", "letter 3",
                                    "step 0", "step 1"])
        self.assertEqual(made[-4:], ["idle 0", "idle 1", "idle 2", "idle 3"])
        self.assertTrue(world.done())
        self.assertEqual(world.committed(), run_plain(model).history())

    def test_letters_in_flight_are_delivered_even_if_no_step_is_possible(self):
        world = World(ring_model(((0, 0, "go", 1),)), (0, 1, 2), 1, 1, False)
        world.act(("step", 0))
        world.act(("double", 0))
        world.calm()
        self.assertEqual((world.net(), world.horizons()), ([], [2, 2, 2]))


class RunCalmTest(unittest.TestCase):
    def check_done(self, world, model):
        plain = run_plain(model)
        self.assertTrue(world.done())
        self.assertEqual(world.horizons(), [model[3] + 1] * world.processors())
        self.assertEqual(world.committed(), plain.history())
        self.assertEqual(world.states(), plain.states())
        self.assertEqual(world.net(), [])

    def test_the_documented_run(self):
        world = run_calm(DOCUMENTED, (0, 1), 3, 2, False)
        self.assertIsInstance(world, World)
        self.assertEqual(world.committed(), [
            (0, 0, -1, 0, "go", 5), (2, 1, 0, 0, "go", 5), (4, 0, 1, 0, "go", 5)])
        self.assertEqual((world.done(), world.states(), world.horizons()), (True, [(2,), (1,)], [6, 6]))

    def test_errors(self):
        for model, placing in ((None, (0, 1)), ([], (0, 1)), (DOCUMENTED, (0,)), (DOCUMENTED, None), (DOCUMENTED, (0, 8))):
            with self.assertRaises(BadModel):
                run_calm(model, placing, 3, 2, False)
        for settings in ((0, 1, True), (1001, 1, True), (True, 1, True), (None, 1, True), (3, 0, True), (3, 9, True),
                         (3, None, True), (3, 1, 1), (3, 1, None)):
            with self.assertRaises(BadAct):
                run_calm(DOCUMENTED, (0, 1), *settings)

    def test_every_window_and_interval(self):
        model = ring_model(((0, 0, "go", 1), (3, 2, "go", 2), (3, 2, "go", 2), (5, 1, "none", 2)))
        for window in (1, 2, 3, 4, 5, 6, 7, 10, 11, 19, 20, 21, 22, 40, 999, 1000):
            for interval in range(1, 9):
                for lazy in (False, True):
                    with self.subTest(window=window, interval=interval, lazy=lazy):
                        self.check_done(run_calm(model, (0, 3, 1), window, interval, lazy), model)

    def test_every_number_of_processors(self):
        model = ring_model(tuple((number % 3, number, "go", number) for number in range(8)), 8)
        for many in range(1, 9):
            for lazy in (False, True):
                for placing in (tuple(number % many for number in range(8)), (many - 1,) * 8, (0,) * 7 + (many - 1,)):
                    with self.subTest(many=many, lazy=lazy, placing=placing):
                        world = run_calm(model, placing, 6, 3, lazy)
                        self.assertEqual(world.processors(), many)
                        self.check_done(world, model)

    def test_ends(self):
        for end in (0, 1, 2, 30, 300):
            for window in (1, 7, 1000):
                for start in ((), ((0, 0, "go", 1),), ((end, 1, "go", 1), (0, 2, "go", 3))):
                    with self.subTest(end=end, window=window, start=start):
                        model = ring_model(start, 3, end)
                        self.check_done(run_calm(model, (1, 0, 2), window, 2, True), model)

    def test_the_last_end(self):
        model = ring_model(((0, 0, "go", 1), (1000, 1, "go", 1)), 2, 1000)
        for window in (100, 1000):
            self.check_done(run_calm(model, (1, 0), window, 8, False), model)

    def test_so_many_cycles(self):
        for window, cycles in ((1, 8), (2, 5), (3, 4), (4, 3), (5, 3), (6, 3), (7, 2), (1000, 2)):
            world = World(DOCUMENTED, (0, 1), window, 2, False)
            for _ in range(cycles):
                world.calm()
            self.assertEqual(view(world), view(run_calm(DOCUMENTED, (0, 1), window, 2, False)))

    def test_random_models(self):
        for seed in range(150):
            with self.subTest(seed=seed):
                chance = random.Random(seed)
                model = crowded_model(chance) if seed % 2 else random_model(chance)
                self.check_done(run_calm(model, *random_settings(chance, model)), model)

    def test_behind_any_acts(self):
        for seed in range(150):
            with self.subTest(seed=seed):
                chance = random.Random(seed)
                model = crowded_model(chance) if seed % 2 else random_model(chance)
                settings = random_settings(chance, model)
                world = World(model, *settings)
                pass_acts(chance, world, chance.choice((10, 100, 300)))
                for _ in range(enough(model, settings[1])):
                    world.calm()
                self.check_done(world, model)

    def test_cycles_and_acts_in_turn(self):
        for seed in range(60):
            with self.subTest(seed=seed):
                chance = random.Random(seed)
                model = random_model(chance)
                window = chance.choice((5, 10, 1000))
                world = World(model, random_placing(chance, model), window, chance.randint(1, 8), seed % 3 == 0)
                for _ in range(enough(model, window)):
                    pass_acts(chance, world, 20)
                    world.calm()
                self.check_done(world, model)

    def test_further_cycles_change_nothing_but_the_token(self):
        for seed in range(40):
            with self.subTest(seed=seed):
                chance = random.Random(seed)
                model = random_model(chance)
                world = run_calm(model, *random_settings(chance, model))
                before = view(world)
                for cycle in range(1, 4):
                    world.calm()
                    after = view(world)
                    self.assertEqual(after[:1] + after[2:], before[:1] + before[2:])
                    self.assertEqual(after[1], (before[1][0] + 4 * cycle, 0, model[3] + 1, model[3] + 1))


class DoneTest(unittest.TestCase):
    def test_done_when_all_horizons_are_behind_the_end(self):
        ended = 0
        for seed in range(60):
            chance = random.Random(seed)
            model = random_model(chance)
            placing = tuple(range(len(model[1])))
            world = World(model, placing, 1000, chance.randint(1, 8), seed % 2 == 0)
            found = []
            for _ in range(400):
                pass_acts(chance, world, 5)
                found.append(world.done())
                self.assertEqual(found[-1], [model[3] + 1] * len(placing) == world.horizons())
            ended += True in found
        self.assertGreater(ended, 20)

    def test_one_horizon_after_the_other(self):
        world = World(ring_model((), 3, 0), (0, 1, 2), 1, 1, True)
        found = []
        for _ in range(7):
            found.append((world.horizons(), world.done()))
            world.act(("hop",))
        self.assertEqual(found, [([0, 0, 0], False)] * 4 + [([1, 0, 0], False), ([1, 1, 0], False), ([1, 1, 1], True)])

    def test_done_only_behind_the_end(self):
        world = World(ring_model(((20, 0, "go", 1),), 1), (0,), 1000, 1, False)
        for _ in range(5):
            world.act(("hop",))
        self.assertEqual((world.horizons(), world.done()), ([20], False))
        world.calm()
        self.assertEqual((world.horizons(), world.done()), ([21], True))


if __name__ == "__main__":
    unittest.main()
