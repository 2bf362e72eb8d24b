"""Point 2: what is handed in is neither changed nor kept, what is told is the asker's own."""

import copy
import unittest

from scopestore.fractions import fraction_of, is_less, minus, over, plus, times
from scopestore.sums import sum_of, sum_plus, sum_times, worth_at

SUM = {"x": (3, 4), "y": (-2, 3)}
PAIRS = [("x", (1, 2)), ("y", (0, 1)), ("x", (1, 3)), ("z", (5, 1)), ("z", (-5, 1))]

# Each call, with what is handed in: a told dict is often alike a handed one here.
DICT_CALLS = (
    (sum_of, (PAIRS,)),
    (sum_of, (tuple(PAIRS),)),
    (sum_of, ([],)),
    (sum_of, ((),)),
    (sum_plus, (SUM, {"x": (1, 4), "z": (1, 1)})),
    (sum_plus, (SUM, {})),
    (sum_plus, ({}, SUM)),
    (sum_plus, ({}, {})),
    (sum_plus, (SUM, {"x": (-3, 4), "y": (2, 3)})),
    (sum_times, (SUM, (1, 1))),
    (sum_times, (SUM, (-4, 3))),
    (sum_times, (SUM, (0, 1))),
    (sum_times, ({}, (1, 1))),
)
OTHER_CALLS = (
    (fraction_of, (6, -8)),
    (plus, ((1, 2), (1, 3))),
    (minus, ((1, 2), (1, 3))),
    (times, ((1, 2), (1, 3))),
    (over, ((1, 2), (1, 3))),
    (is_less, ((1, 2), (1, 3))),
    (worth_at, (SUM, {"x": (1, 3), "u": (0, 1)})),
    (worth_at, (SUM, {})),
    (worth_at, ({}, {"x": (1, 3)})),
)


def ordered(thing):
    """Tell a thing such that even the order of a dict in it can be compared."""
    return repr(thing)


def spoil(thing):
    """Change a list or a dict beyond recognition."""
    if isinstance(thing, dict):
        thing.clear()
        thing["spoilt"] = (99, 1)
    if isinstance(thing, list):
        thing.clear()
        thing.append(("spoilt", (99, 1)))


class Handed(unittest.TestCase):
    def test_what_is_handed_in_is_unchanged(self):
        for call, handed in DICT_CALLS + OTHER_CALLS:
            with self.subTest(call=call.__name__, handed=handed):
                own = copy.deepcopy(handed)
                call(*own)
                self.assertEqual(ordered(own), ordered(handed))

    def test_a_told_dict_is_the_askers_own(self):
        for call, handed in DICT_CALLS:
            with self.subTest(call=call.__name__, handed=handed):
                own = copy.deepcopy(handed)
                told = call(*own)
                as_told = copy.deepcopy(told)
                spoil(told)
                self.assertEqual(ordered(own), ordered(handed))
                self.assertEqual(call(*own), as_told)
                self.assertEqual(call(*copy.deepcopy(handed)), as_told)

    def test_two_told_dicts_are_two(self):
        for call, handed in DICT_CALLS:
            with self.subTest(call=call.__name__, handed=handed):
                first, second = call(*handed), call(*handed)
                as_told = copy.deepcopy(second)
                spoil(first)
                self.assertEqual(second, as_told)

    def test_what_is_handed_in_is_not_kept(self):
        for call, handed in DICT_CALLS + OTHER_CALLS:
            with self.subTest(call=call.__name__, handed=handed):
                own = copy.deepcopy(handed)
                told = call(*own)
                as_told = copy.deepcopy(told)
                for thing in own:
                    spoil(thing)
                self.assertEqual(told, as_told)
                self.assertEqual(call(*copy.deepcopy(handed)), as_told)


if __name__ == "__main__":
    unittest.main()
