"""The interface: names, arguments and files, and the conventions of point 3 that hold for all functions."""

import copy
import inspect
import unittest

from backthen import (
    counts, errors, evidence, orders, ranking, reports, roads, safety, session, settler, short, tales, tellers,
)
from tests.helper import ANYTHING, BAD_REPORTS, BAD_TALES, BAD_TELLERS, assert_raises

TALE = (("at", "b"), ("with", "a"), ("then", "c"), ("at", "d"))

REPORT = ((2, ("with", "a")), (3, ("then", "c")))
TELLERS = (("ana", TALE), ("bo", (("at", "d"), ("then", "a"))))
TORN = TELLERS + (("cy", (("at", "b"), ("then", "d"))),)

# For each function its arguments, and values for them.
FUNCTIONS = {
    tales.check_tale: {"thing": TALE},
    tales.parse_tale: {"lines": ["at a", "# no", "then b"]},
    tales.format_tale: {"tale": TALE},
    tales.stands: {"tale": TALE},
    tales.moments: {"tale": TALE},
    orders.groups: {"tale": TALE},
    orders.covers: {"tale": TALE},
    orders.components: {"tale": TALE},
    orders.cycle_rank: {"tale": TALE},
    orders.relation: {"tale": TALE, "a": "a", "b": "d"},
    orders.first_timeline: {"tale": TALE},
    orders.check_timeline: {"tale": TALE, "thing": (("c",), ["a"])},
    evidence.explain_relation: {"tale": TALE, "a": "a", "b": "d"},
    evidence.check_explanation: {"tale": TALE, "a": "a", "b": "c", "thing": ("before", (1, 2, ["a"]))},
    counts.count_timelines: {"tale": TALE},
    counts.place_counts: {"tale": TALE, "a": "c"},
    counts.mean_place: {"tale": TALE, "a": "c"},
    counts.share: {"tale": TALE, "a": "c", "b": "d"},
    counts.share_terms: {"tale": TALE, "a": "c", "b": "d"},
    counts.check_share_terms: {"tale": TALE, "a": "c", "b": "d", "thing": (([], 1),)},
    ranking.nth_timeline: {"tale": TALE, "k": 1},
    ranking.timeline_rank: {"tale": TALE, "timeline": (("a", "b"), ("c",), ("d",))},
    ranking.middle_pair: {"tale": TALE},
    roads.find_road: {"tale": TALE},
    roads.check_road: {"tale": TALE, "thing": ("road", (("a", "b"), ["c"]))},
    roads.straight_tale: {"tale": TALE[:3]},
    reports.check_report: {"thing": ((2, ("with", ["a"])),)},
    reports.heard_tale: {"report": REPORT},
    reports.check_fit: {"report": REPORT, "tale": TALE},
    reports.gap_stands: {"report": REPORT, "tale": TALE},
    reports.merge_reports: {"reports": [REPORT, ((1, ("at", "b")),)]},
    reports.gain: {"reports": [REPORT, ((1, ("at", "b")),)]},
    safety.dozed_tale: {"tale": TALE, "places": [1, 3]},
    safety.safety: {"tale": TALE, "a": "a", "b": "c"},
    safety.explain_safety: {"tale": TALE, "a": "a", "b": "c"},
    safety.check_safety: {"tale": TALE, "a": "a", "b": "c", "thing": (1, (["hold"],), (1,))},
    safety.fragile_places: {"tale": TALE},
    tellers.check_tellers: {"thing": (("ana", ["a"]),)},
    tellers.join: {"tellers": TELLERS},
    tellers.conflict: {"tellers": TORN},
    tellers.check_ring: {"tellers": TORN, "thing": (("ana", 1), ["bo", 1])},
    tellers.suspects: {"tellers": TORN},
    tellers.dismissed: {"tellers": TORN},
    tellers.backers: {"tellers": TORN, "a": "d", "b": "c"},
    settler.settle: {"tale": TALE, "timeline": (("a", "b"), ("c",), ("d",))},
    short.shortest_length: {"tale": TALE},
    short.shortest_tale: {"tale": TALE},
    short.check_same_order: {"one": TALE, "other": TALE + (("then", "c"),)},
}
FILES = {
    "backthen.tales": ("check_tale", "parse_tale", "format_tale", "stands", "moments"),
    "backthen.orders": (
        "groups", "covers", "components", "cycle_rank", "relation", "first_timeline", "check_timeline",
    ),
    "backthen.evidence": ("explain_relation", "check_explanation"),
    "backthen.counts": (
        "count_timelines", "place_counts", "mean_place", "share", "share_terms", "check_share_terms",
    ),
    "backthen.ranking": ("nth_timeline", "timeline_rank", "middle_pair"),
    "backthen.roads": ("find_road", "check_road", "straight_tale"),
    "backthen.reports": (
        "check_report", "heard_tale", "check_fit", "gap_stands", "merge_reports", "gain",
    ),
    "backthen.safety": ("dozed_tale", "safety", "explain_safety", "check_safety", "fragile_places"),
    "backthen.tellers": (
        "check_tellers", "join", "conflict", "check_ring", "suspects", "dismissed", "backers",
    ),
    "backthen.settler": ("settle",),
    "backthen.short": ("shortest_length", "shortest_tale", "check_same_order"),
}
# For each class its methods, each with its arguments behind self.
CLASSES = {
    settler.Settler: {
        "question": [], "answer": ["first"], "undo": [], "remaining": [], "answers": [], "tale": [], "result": [],
        "copy": [], "__eq__": None, "__init__": ["tale"],
    },
    session.Session: {
        "tell": ["teller", "sentence"], "undo": [], "tellers": [], "tale": [], "relation": ["a", "b"],
        "explain_relation": ["a", "b"], "news": [], "copy": [], "__len__": [], "__eq__": None,
    },
}


class InterfaceTests(unittest.TestCase):
    def test_files_names_and_arguments(self):
        found = {}
        for function, arguments in FUNCTIONS.items():
            self.assertEqual(list(inspect.signature(function).parameters), list(arguments))
            found.setdefault(function.__module__, []).append(function.__name__)
        self.assertEqual({name: tuple(names) for name, names in found.items()}, FILES)

    def test_classes_and_methods(self):
        self.assertEqual([made.__module__ for made in CLASSES], ["backthen.settler", "backthen.session"])
        self.assertEqual([made.__name__ for made in CLASSES], ["Settler", "Session"])
        for made, methods in CLASSES.items():
            for name, arguments in methods.items():
                with self.subTest(made.__name__, method=name):
                    self.assertIn(name, vars(made))
                    if arguments is not None:
                        found = list(inspect.signature(vars(made)[name]).parameters)
                        self.assertEqual(found[1:], arguments)
        self.assertEqual(list(inspect.signature(settler.Settler).parameters), ["tale"])
        self.assertEqual(list(inspect.signature(session.Session).parameters), [])

    def test_by_position_and_by_name(self):
        for function, arguments in FUNCTIONS.items():
            with self.subTest(function.__name__):
                self.assertEqual(function(*arguments.values()), function(**arguments))

    def test_arguments_are_not_changed_and_calls_repeat(self):
        for function, arguments in FUNCTIONS.items():
            with self.subTest(function.__name__):
                kept = copy.deepcopy(arguments)
                first = function(**arguments)
                self.assertEqual(arguments, kept)
                self.assertEqual(function(**arguments), first)

    def test_returned_lists_and_dicts_are_new(self):
        kinds = set()
        for function, arguments in FUNCTIONS.items():
            first = function(**arguments)
            if isinstance(first, (list, dict)):
                kinds.add(type(first))
                with self.subTest(function.__name__):
                    kept = copy.deepcopy(first)
                    for item in first:
                        if isinstance(item, list):
                            item.append("changed")
                    first.clear()
                    self.assertEqual(function(**arguments), kept)
        self.assertEqual(kinds, {list, dict})

    def test_integers_are_no_bools(self):
        self.assertIs(type(orders.cycle_rank(TALE)), int)
        self.assertIs(type(orders.cycle_rank(())), int)
        for problem in (
            tales.check_tale((("then", "a"),)),
            tales.check_tale((("at", "a"), ("then", "a"))),
            orders.check_timeline(TALE, (None,)),
            evidence.check_explanation(TALE, "a", "b", ("same", (0,))),
            evidence.check_explanation(TALE, "a", "d", ("unknown", (), ())),
            counts.check_share_terms(TALE, "a", "c", ((None, 1),)),
            roads.check_road(TALE, ("road", (None,))),
            roads.check_road(TALE, ("none", (("c",), ("c",), ("c",)))),
            reports.check_report((None,)),
            reports.check_report(((2, ("then", "a")), (3, ("then", "a")))),
            tellers.check_tellers((("ana", ()), ("Bo", ()))),
            tellers.check_tellers((("ana", None),)),
            tellers.check_ring(TORN, (None,)),
            safety.check_safety(TALE, "a", "c", (1, (None,), (1,))),
            safety.check_safety(TALE, "a", "c", (1, ((("say", 1), ("hold", 1), ("hold", 2), ("say", 2)),), (True,))),
        ):
            self.assertIs(type(problem[1]), int)

    def test_true_is_no_moment(self):
        for value in (True, 1):
            assert_raises(self, errors.UnknownMoment, "name", value, orders.relation, TALE, value, "a")

    def test_invalid_tale_comes_before_all_other_checks(self):
        for function, arguments in FUNCTIONS.items():
            if "tale" not in arguments or "report" in arguments:
                continue
            for others in [arguments] + [{name: value for name in arguments} for value in ANYTHING]:
                for tale, problem in BAD_TALES:
                    with self.subTest(function.__name__, tale=tale):
                        values = list({**others, "tale": tale}.values())
                        assert_raises(self, errors.InvalidTale, "problem", problem, function, *values)

    def test_every_kind_of_thing_that_is_no_tale(self):
        for thing in ANYTHING:
            problem = tales.check_tale(thing)
            for function, arguments in FUNCTIONS.items():
                if "tale" in arguments and problem is not None:
                    values = list({**arguments, "tale": thing}.values())
                    assert_raises(self, errors.InvalidTale, "problem", problem, function, *values)

    def test_invalid_report_comes_before_all_other_checks(self):
        for function, arguments in FUNCTIONS.items():
            if "report" not in arguments:
                continue
            for tale in [TALE, None] + [tale for tale, _ in BAD_TALES]:
                for report, problem in BAD_REPORTS:
                    with self.subTest(function.__name__, report=report):
                        values = {**arguments, "tale": tale, "report": report}
                        given = [values[name] for name in arguments]
                        assert_raises(self, errors.InvalidReport, "problem", problem, function, *given)

    def test_invalid_tellers_come_before_all_other_checks(self):
        for function, arguments in FUNCTIONS.items():
            if "tellers" not in arguments:
                continue
            for others in [arguments] + [{name: value for name in arguments} for value in ANYTHING]:
                for given, problem in BAD_TELLERS:
                    with self.subTest(function.__name__, tellers=given):
                        values = list({**others, "tellers": given}.values())
                        assert_raises(self, errors.InvalidTellers, "problem", problem, function, *values)

    def test_calls_that_raise_leave_the_objects_as_they_were(self):
        asked = settler.Settler(TALE)
        asked.answer(asked.question()[0])
        told = session.Session()
        told.tell("ana", ("at", "a"))
        told.tell("ana", ("then", "b"))
        for call, values in (
            (asked.answer, (None,)), (settler.Settler(()).undo, ()), (told.tell, ("ana", ("then", "a"))),
            (told.tell, (None, ("at", "a"))), (told.tell, ("bo", None)), (told.relation, ("a", None)),
            (told.explain_relation, ("q", "a")),
        ):
            kept = (asked.copy(), asked.answers(), told.copy(), told.news())
            with self.assertRaises(errors.TaleError):
                call(*values)
            self.assertEqual((asked, asked.answers(), told, told.news()), kept)


if __name__ == "__main__":
    unittest.main()
