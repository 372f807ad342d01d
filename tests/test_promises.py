"""The promises of point 2, for random models, placings and orders of steps, letters and visits."""

import random
import unittest

from tests.samples import Ring, random_model
from vancourier.plain import run_plain

# How likely the acts are: step, hop, deliver, double, move.
WEIGHTS = ((6, 1, 3, 1, 2), (2, 1, 4, 1, 1), (9, 2, 2, 0, 0), (3, 4, 3, 2, 2), (1, 0, 1, 0, 1))


def random_ring(chance, model, lazy):
    """Returns a ring for a model, most often with many processors and a wide window."""
    processors = chance.choice((1, 2, 3, 8, 8, 8))
    placing = tuple(chance.randrange(processors) for _ in model[1])
    return Ring(model, placing, chance.choice((1, 3, 10, 40, 1000)), chance.randint(1, 8), lazy)


class PromisesTest(unittest.TestCase):
    def check_end(self, ring, model):
        plain = run_plain(model)
        self.assertEqual([one.horizon() for one in ring.processors], [model[3] + 1] * len(ring.processors))
        committed = [event for one in ring.processors for event in one.committed()]
        self.assertEqual(sorted(committed), plain.history())
        states = {}
        for one in ring.processors:
            states.update(one.states())
        self.assertEqual([states[number] for number in range(len(model[1]))], plain.states())

    def check_run(self, seed, lazy):
        chance = random.Random(seed)
        model = random_model(chance)
        ring = random_ring(chance, model, lazy)
        weights = chance.choice(WEIGHTS)
        for _ in range(chance.choice((0, 60, 200))):
            ring.act(chance, weights)
            self.assertEqual(ring.faults(), [])
        ring.calm()
        self.assertEqual(ring.faults(), [])
        self.check_end(ring, model)
        return ring.antis

    def test_eager(self):
        antis = 0
        for seed in range(150):
            with self.subTest(seed=seed):
                antis += self.check_run(seed, False)
        # Otherwise the runs would not have tested much.
        self.assertGreater(antis, 150)

    def test_lazy(self):
        antis = 0
        for seed in range(150):
            with self.subTest(seed=seed):
                antis += self.check_run(seed, True)
        self.assertGreater(antis, 150)


if __name__ == "__main__":
    unittest.main()
