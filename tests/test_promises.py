"""The promises of point 2, and points 152 and 158, for random models, placings and orders of acts."""

import random
import unittest

from tests.samples import random_model
from tests.worlds import WEIGHTS, Watch, crowded_model, enough, random_act, random_placing
from vancourier.plain import run_plain


class PromisesTest(unittest.TestCase):
    def check_end(self, world, model):
        plain = run_plain(model)
        self.assertTrue(world.done())
        self.assertEqual(world.horizons(), [model[3] + 1] * world.processors())
        self.assertEqual(world.committed(), plain.history())
        self.assertEqual(world.states(), plain.states())

    def check_run(self, seed, make_model, lazy):
        """Checks a random run, and returns how many antis were sent in it."""
        chance = random.Random(seed)
        model = make_model(chance)
        window = chance.choice((1, 3, 10, 40, 1000))
        watch = Watch(model, random_placing(chance, model), window, chance.randint(1, 8), lazy)
        weights = chance.choice(WEIGHTS)
        for _ in range(chance.choice((0, 60, 200))):
            watch.act(random_act(chance, watch.world, weights))
            self.assertEqual(watch.faults(), [])
        for _ in range(enough(model, window)):
            watch.calm()
            self.assertEqual(watch.faults(), [])
        self.check_end(watch.world, model)
        return watch.antis()

    def check_runs(self, make_model, lazy):
        antis = 0
        for seed in range(150):
            with self.subTest(seed=seed):
                antis += self.check_run(seed, make_model, lazy)
        # Otherwise the runs would not have tested much.
        self.assertGreater(antis, 50)

    def test_eager(self):
        self.check_runs(random_model, False)

    def test_lazy(self):
        self.check_runs(random_model, True)

    def test_eager_crowds(self):
        self.check_runs(crowded_model, False)

    def test_lazy_crowds(self):
        self.check_runs(crowded_model, True)


class DisorderTest(unittest.TestCase):
    """Each object on its own processor, and a net that is seldom calm."""

    def check_run(self, seed, lazy):
        chance = random.Random(seed)
        model = crowded_model(chance) if seed % 2 else random_model(chance)
        window = chance.choice((4, 20, 1000))
        watch = Watch(model, tuple(range(len(model[1]))), window, chance.randint(1, 8), lazy)
        weights = chance.choice(((3, 1, 3, 0.2, 1), (6, 1, 6, 1, 3), (10, 0.3, 10, 1, 5), (2, 3, 3, 1, 1)))
        done = 0
        for turn in range(600):
            watch.act(random_act(chance, watch.world, weights))
            if turn % 4 == 0:
                self.assertEqual(watch.faults(), [])
            done = max(done, min(watch.world.horizons()))
        return watch.antis(), done

    def test_disorder(self):
        for lazy in (False, True):
            antis, raised = 0, 0
            for seed in range(100):
                with self.subTest(seed=seed, lazy=lazy):
                    found = self.check_run(seed, lazy)
                    antis += found[0]
                    raised += found[1] > 0
            self.assertGreater(antis, 100)
            self.assertGreater(raised, 30)


if __name__ == "__main__":
    unittest.main()
