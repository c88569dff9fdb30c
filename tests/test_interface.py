"""The interface: names, arguments and files, and the conventions of point 3 that hold for all functions."""

import copy
import inspect
import unittest

from backthen import counts, errors, evidence, orders, ranking, tales
from tests.helper import ANYTHING, BAD_TALES, assert_raises

TALE = (("at", "b"), ("with", "a"), ("then", "c"), ("at", "d"))

# For each function its arguments, and values for them.
FUNCTIONS = {
    tales.check_tale: {"thing": TALE},
    tales.parse_tale: {"lines": ["at a", "# no", "then b"]},
    tales.format_tale: {"tale": TALE},
    tales.stands: {"tale": TALE},
    tales.moments: {"tale": TALE},
    orders.groups: {"tale": TALE},
    orders.covers: {"tale": TALE},
    orders.components: {"tale": TALE},
    orders.cycle_rank: {"tale": TALE},
    orders.relation: {"tale": TALE, "a": "a", "b": "d"},
    orders.first_timeline: {"tale": TALE},
    orders.check_timeline: {"tale": TALE, "thing": (("c",), ["a"])},
    evidence.explain_relation: {"tale": TALE, "a": "a", "b": "d"},
    evidence.check_explanation: {"tale": TALE, "a": "a", "b": "c", "thing": ("before", (1, 2, ["a"]))},
    counts.count_timelines: {"tale": TALE},
    counts.place_counts: {"tale": TALE, "a": "c"},
    counts.mean_place: {"tale": TALE, "a": "c"},
    counts.share: {"tale": TALE, "a": "c", "b": "d"},
    counts.share_terms: {"tale": TALE, "a": "c", "b": "d"},
    counts.check_share_terms: {"tale": TALE, "a": "c", "b": "d", "thing": (([], 1),)},
    ranking.nth_timeline: {"tale": TALE, "k": 1},
    ranking.timeline_rank: {"tale": TALE, "timeline": (("a", "b"), ("c",), ("d",))},
    ranking.middle_pair: {"tale": TALE},
}
FILES = {
    "backthen.tales": ("check_tale", "parse_tale", "format_tale", "stands", "moments"),
    "backthen.orders": (
        "groups", "covers", "components", "cycle_rank", "relation", "first_timeline", "check_timeline",
    ),
    "backthen.evidence": ("explain_relation", "check_explanation"),
    "backthen.counts": (
        "count_timelines", "place_counts", "mean_place", "share", "share_terms", "check_share_terms",
    ),
    "backthen.ranking": ("nth_timeline", "timeline_rank", "middle_pair"),
}


class InterfaceTests(unittest.TestCase):
    def test_files_names_and_arguments(self):
        found = {}
        for function, arguments in FUNCTIONS.items():
            self.assertEqual(list(inspect.signature(function).parameters), list(arguments))
            found.setdefault(function.__module__, []).append(function.__name__)
        self.assertEqual({name: tuple(names) for name, names in found.items()}, FILES)

    def test_by_position_and_by_name(self):
        for function, arguments in FUNCTIONS.items():
            with self.subTest(function.__name__):
                self.assertEqual(function(*arguments.values()), function(**arguments))

    def test_arguments_are_not_changed_and_calls_repeat(self):
        for function, arguments in FUNCTIONS.items():
            with self.subTest(function.__name__):
                kept = copy.deepcopy(arguments)
                first = function(**arguments)
                self.assertEqual(arguments, kept)
                self.assertEqual(function(**arguments), first)

    def test_returned_lists_are_new(self):
        for function, arguments in FUNCTIONS.items():
            first = function(**arguments)
            if isinstance(first, list):
                with self.subTest(function.__name__):
                    kept = copy.deepcopy(first)
                    for item in first:
                        if isinstance(item, list):
                            item.append("changed")
                    first.clear()
                    self.assertEqual(function(**arguments), kept)

    def test_integers_are_no_bools(self):
        self.assertIs(type(orders.cycle_rank(TALE)), int)
        self.assertIs(type(orders.cycle_rank(())), int)
        for problem in (
            tales.check_tale((("then", "a"),)),
            tales.check_tale((("at", "a"), ("then", "a"))),
            orders.check_timeline(TALE, (None,)),
            evidence.check_explanation(TALE, "a", "b", ("same", (0,))),
            evidence.check_explanation(TALE, "a", "d", ("unknown", (), ())),
            counts.check_share_terms(TALE, "a", "c", ((None, 1),)),
        ):
            self.assertIs(type(problem[1]), int)

    def test_true_is_no_moment(self):
        for value in (True, 1):
            assert_raises(self, errors.UnknownMoment, "name", value, orders.relation, TALE, value, "a")

    def test_invalid_tale_comes_before_all_other_checks(self):
        for function, arguments in FUNCTIONS.items():
            if "tale" not in arguments:
                continue
            for others in [arguments] + [{name: value for name in arguments} for value in ANYTHING]:
                for tale, problem in BAD_TALES:
                    with self.subTest(function.__name__, tale=tale):
                        values = list({**others, "tale": tale}.values())
                        assert_raises(self, errors.InvalidTale, "problem", problem, function, *values)

    def test_every_kind_of_thing_that_is_no_tale(self):
        for thing in ANYTHING:
            problem = tales.check_tale(thing)
            for function, arguments in FUNCTIONS.items():
                if "tale" in arguments and problem is not None:
                    values = list({**arguments, "tale": thing}.values())
                    assert_raises(self, errors.InvalidTale, "problem", problem, function, *values)


if __name__ == "__main__":
    unittest.main()
