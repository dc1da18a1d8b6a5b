"""[6], as stretches are reckoned by their edges: of bounded and of boundless ones."""

import random
import unittest

from rowsintime.stretches import merged, met, stretch_told

EDGES = list(range(0, 9))


def halves_of(stretch):
    """The numbers and the gaps between, up to a great one, that a stretch has: 2 * n is n, 2 * n + 1 all up to n + 1."""
    low, high = stretch
    return set(range(low, 30 if high is None else high))


class StretchesTest(unittest.TestCase):
    def test_told(self):
        for stretch, told in (((0, None), (("from", 0), None)), ((3, None), (("above", 1), None)),
                              ((2, 3), (("from", 1), ("upto", 1))), ((1, 4), (("above", 0), ("below", 2))),
                              ((5, 7), (("above", 2), ("upto", 3))), ((4, 6), (("from", 2), ("below", 3)))):
            self.assertEqual(stretch_told(stretch), told)

    def test_merged_and_met(self):
        rolls = random.Random(6)
        for _ in range(400):
            stretches = []
            for _ in range(rolls.randint(0, 4)):
                low = rolls.choice(EDGES)
                stretches.append((low, rolls.choice([None, low + rolls.randint(1, 4)])))
            before = list(stretches)
            found = merged(stretches)
            self.assertEqual(stretches, before)
            union = set().union(*map(halves_of, stretches))
            self.assertEqual(set().union(*map(halves_of, found)), union)
            self.assertEqual(sum(len(halves_of(one)) for one in found), len(union))
            for ahead, behind in zip(found, found[1:]):
                self.assertLess(ahead[1], behind[0])
            for one in stretches:
                for other in stretches:
                    common = met(one, other)
                    self.assertEqual(set() if common is None else halves_of(common), halves_of(one) & halves_of(other))


if __name__ == "__main__":
    unittest.main()
