"""[83]: heights, and the rounds that there are where there are none."""

import random
import unittest
from collections import Counter
from fractions import Fraction

from rowsintime.heights import are_fast_heights, are_slow_heights, fast_heights, slow_heights
from rowsintime.rounds import faster, fastest, leaps, slower, slowest
from rowsintime.watchers import Watcher
from tests.helper import error_of, fault, fraction, pair_of, strange_objects
from tests.test_rounds import as_told, doors, leaps_by_hand, means, random_fresh, random_round, rounds_by_hand, timed_doors


def round_leaps(watcher):
    """The leaps from whose last arrows leaps lead back to their starts."""
    told = leaps_by_hand(watcher)
    behind = {leap[0]: {other[1][-1] for other in told if other[0] == leap[0]} for leap in told}
    for _ in behind:
        behind = {start: to.union(*[behind.get(one, set()) for one in to]) for start, to in behind.items()}
    return [leap for leap in told if leap[0] is not None and leap[0] in behind.get(leap[1][-1], set()) | {leap[1][-1]}]


def are_heights(watcher, mean, thing, is_fast):
    """Whether a dict from just the starts to exact heights is as [83] asks."""
    told = round_leaps(watcher)
    if sorted(thing) != sorted({leap[0] for leap in told}):
        return False
    for start, leg, least, greatest in told:
        if is_fast and thing[leg[-1]] > thing[start] + least[1] - mean * len(leg):
            return False
        if not is_fast and (greatest is None or thing[leg[-1]] < thing[start] + greatest[1] - mean * len(leg)):
            return False
    return True


class HeightsTest(unittest.TestCase):
    def test_just_one_of_heights_and_rounds(self):
        rolls = random.Random(1)
        seen = Counter()
        for _ in range(300):
            watcher = random_fresh(rolls)
            rounds = rounds_by_hand(watcher)
            mean = Fraction(rolls.randint(-4, 24), rolls.randint(1, 6))
            if rounds and rolls.random() < 0.4:
                mean = rolls.choice([one for one in means(rolls.choice(rounds)) if one is not None])
            for heights, found, is_fast in ((fast_heights, faster, True), (slow_heights, slower, False)):
                told, way = heights(watcher, pair_of(mean)), found(watcher, pair_of(mean))
                self.assertIs(told is None, way is not None)
                seen[is_fast, told is None] += 1
                if told is not None:
                    self.assertEqual(list(told), sorted({leap[0] for leap in round_leaps(watcher)}))
                    self.assertTrue(all(pair_of(fraction(height)) == height for height in told.values()))
                    self.assertTrue(are_heights(watcher, mean, {key: fraction(told[key]) for key in told}, is_fast))
                    self.assertEqual(told == {}, not rounds)
        self.assertGreater(min(seen.values()), 20)

    def test_the_tests_of_heights(self):
        rolls = random.Random(2)
        seen = Counter()
        for _ in range(200):
            watcher, rounds = random_round(rolls)
            for told_means, heights, test, is_fast in ((fastest(watcher), fast_heights, are_fast_heights, True),
                                                      (slowest(watcher), slow_heights, are_slow_heights, False)):
                mean = fraction(told_means[0] or (9, 1)) + rolls.choice([-1, Fraction(-1, 2), 0, 0, Fraction(1, 3), 1])
                told = heights(watcher, pair_of(mean))
                thing = told or {leap[0]: (0, 1) for leap in round_leaps(watcher)}
                keys = list(thing)
                rolls.shuffle(keys)
                thing = {key: thing[key] for key in keys}
                if rolls.random() < 0.6:
                    thing[rolls.choice(keys)] = pair_of(Fraction(rolls.randint(-8, 8), 2))
                exact = {key: fraction(thing[key]) for key in thing}
                scaled = {key: [2 * top, 2 * bottom] for key, (top, bottom) in thing.items()}
                wanted = are_heights(watcher, mean, exact, is_fast)
                self.assertIs(test(watcher, pair_of(mean), thing), wanted)
                self.assertIs(test(watcher, [mean.numerator * 5, mean.denominator * 5], scaled), wanted)
                seen[is_fast, wanted] += 1
        self.assertGreater(min(seen.values()), 10)

    def test_by_name(self):
        watcher = as_told(timed_doors())
        mean = [1, 1]
        told = fast_heights(watcher=watcher, mean=mean)
        self.assertEqual(list(told), [0, 1, 3])
        self.assertIs(are_fast_heights(watcher=watcher, mean=mean, thing=told), True)
        slow = slow_heights(watcher=watcher, mean=(4, 1))
        self.assertIs(are_slow_heights(watcher=watcher, mean=(8, 2), thing=slow), True)
        self.assertEqual((fast_heights(watcher, (4, 4)), slow_heights(watcher, (8, 2))), (told, slow))
        self.assertIsNone(fast_heights(watcher, (11, 10)))
        self.assertIsNone(slow_heights(watcher, (39, 10)))
        self.assertIsNone(slow_heights(doors(), (10 ** 12, 1)))
        told.clear()
        self.assertEqual(list(fast_heights(watcher, mean)), [0, 1, 3])

    def test_heights_that_are_no_integers(self):
        watcher = Watcher(["x"], {"p": {}, "q": {}}, [
            ("p", "a", [("x", "from", 1), ("x", "upto", 2)], ["x"], "q"), ("q", "b", [("x", "from", 4), ("x", "upto", 5)], ["x"], "p")], [])
        self.assertEqual((fastest(watcher)[0], slowest(watcher)[0]), ((5, 2), (7, 2)))
        for mean, heights, step in (((5, 2), fast_heights, Fraction(3, 2)), ((7, 2), slow_heights, Fraction(3, 2))):
            told = heights(watcher, mean)
            self.assertEqual(fraction(told[1]) - fraction(told[0]), step)

    def test_means_below_0(self):
        self.assertIsNotNone(fast_heights(timed_doors(), (-7, 3)))
        self.assertIsNone(slow_heights(timed_doors(), (-7, 3)))

    def test_any_objects(self):
        watcher, mean = timed_doors(), (1, 1)
        told = fast_heights(watcher, mean)
        wrong = strange_objects() + [
            {}, {0: (0, 1), 1: (0, 1)}, {**told, 2: (0, 1)}, {**told, None: (0, 1)}, {**told, 0: None}, {**told, 0: 0},
            {**told, 3: (0, 0)}, {False: told[0], True: told[1], 3: told[3]}, {0: told[0], True: told[1], 3: told[3]},
            {"0": told[0], 1: told[1], 3: told[3]}, list(told.items()), {**told, 0: (told[0][0] - 9, 1)},
            {0.0: told[0], 1: told[1], 3: told[3]}]
        for thing in wrong:
            self.assertIs(are_fast_heights(watcher, mean, thing), False, thing)
            self.assertIs(are_slow_heights(watcher, mean, thing), False, thing)
        slow = slow_heights(watcher, (4, 1))
        self.assertIs(are_slow_heights(watcher, (4, 1), {True: slow[1], 0: slow[0], 3: slow[3]}), False)

    def test_errors(self):
        for thing in strange_objects() + [1, (1, 0), (1, -1), (True, 1)]:
            is_mean = isinstance(thing, (list, tuple)) and len(thing) == 2 and all(type(part) is int for part in thing)
            if is_mean and thing[1] > 0:
                continue
            for work in (lambda: fast_heights(doors(), thing), lambda: slow_heights(doors(), thing),
                         lambda: are_fast_heights(doors(), thing, None), lambda: are_slow_heights(doors(), thing, None)):
                error = error_of(work)
                self.assertEqual((error.__class__.__name__, error.mean is thing), ("BadMean", True))

    def test_no_rounds(self):
        watcher = random_fresh(random.Random(3), arrows=0)
        self.assertEqual((leaps(watcher), fast_heights(watcher, (0, 1)), slow_heights(watcher, (0, 1))), ([], {}, {}))
        self.assertIs(are_fast_heights(watcher, (7, 1), {}), True)
        self.assertIs(are_slow_heights(watcher, (-7, 1), {}), True)
        self.assertIs(are_fast_heights(watcher, (7, 1), []), False)
        self.assertIsNone(fault(lambda: faster(watcher, (7, 1))))


if __name__ == "__main__":
    unittest.main()
