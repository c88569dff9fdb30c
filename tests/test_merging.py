"""Point 11: merge_reports and gain."""

import itertools
import random
import unittest

from backthen.errors import InvalidReport, Mismatch
from backthen.reports import check_report, gain, heard_tale, merge_reports
from tests.helper import (
    ANYTHING, BAD_REPORTS, NAMES, WORDS, assert_raises, cut_report, drawn_tales, plain_cycle, plain_heard, plain_reaches,
    plain_relation,
)

A, B, C = ("at", "a"), ("then", "b"), ("then", "c")


def plain_merge(reports):
    """("merged", report), or the error that merge_reports must raise for reports that are valid: (its name, field)."""
    told = {}
    for report in reports:
        for number, sentence in report:
            told.setdefault(number, []).append(sentence)
    wrong = [number for number in told if any(sentence != told[number][0] for sentence in told[number])]
    if wrong:
        return ("Mismatch", min(wrong))
    merged = tuple((number, told[number][0]) for number in sorted(told))
    for i in range(len(merged)):
        if plain_cycle(plain_heard(merged[:i + 1])) is not None:
            return ("InvalidReport", ("cycle", i))
    return ("merged", merged)


def plain_gain(reports):
    """What gain must return, asked pair by pair."""
    merged = plain_merge(reports)[1]
    names = sorted({moment for _, (_, moment) in merged})
    found = []
    for a, b in itertools.product(names, repeat=2):
        together = plain_relation(plain_heard(merged), a, b) == "before"
        alone = False
        for report in reports:
            if {a, b} <= {moment for _, (_, moment) in report}:
                alone = alone or plain_relation(plain_heard(report), a, b) == "before"
        if together and not alone:
            found.append((a, b))
    return found


def drawn_lists(seed, many, longest, names=NAMES):
    """Drawn lists of reports of one tale."""
    source = random.Random(seed)
    return [[cut_report(source, tale) for _ in range(source.randint(0, 4))] for tale in drawn_tales(seed, many, longest, names)]


class MergeTests(unittest.TestCase):
    def merge(self, reports, merged):
        with self.subTest(reports=reports):
            self.assertEqual(merge_reports(reports), merged)

    def test_example(self):
        self.merge([((1, ("at", "a")),), ((2, ("then", "b")),)], ((1, ("at", "a")), (2, ("then", "b"))))

    def test_empty_lists_and_reports(self):
        self.merge([], ())
        self.merge([()], ())
        self.merge([(), ((3, B),), ()], ((3, B),))

    def test_one_report(self):
        report = ((1, A), (5, B))
        self.merge([report], report)
        self.merge([report, report], report)
        self.merge([report] * 6, report)

    def test_numbers_ascend(self):
        self.merge([((7, B),), ((2, A),), ((5, C), (9, A))], ((2, A), (5, C), (7, B), (9, A)))
        self.merge([((10, B),), ((9, A),)], ((9, A), (10, B)))

    def test_common_numbers_stand_once(self):
        self.merge([((1, A), (2, B)), ((2, B), (3, C))], ((1, A), (2, B), (3, C)))

    def test_reports_that_close_each_others_gaps(self):
        self.merge([((1, A), (3, C)), ((2, B), (4, A))], ((1, A), (2, B), (3, C), (4, A)))

    def test_a_merged_report_is_a_report(self):
        for reports in drawn_lists(261, 200, 12):
            merged = merge_reports(reports)
            self.assertEqual(("merged", merged), plain_merge(reports))
            self.assertIsNone(check_report(merged))
            self.assertEqual(type(merged), tuple)

    def test_reports_of_different_tales(self):
        source = random.Random(263)
        told = {"Mismatch": 0, "InvalidReport": 0, "merged": 0}
        for tale in drawn_tales(264, 2000, 9, ("a", "b", "c")):
            other = list(tale)
            for i in range(1, len(tale)):
                if source.random() < 0.2:
                    other[i] = (source.choice(WORDS), source.choice("abc"))
            numbered = enumerate(other, 1)
            reports = [cut_report(source, tale), tuple(item for item in numbered if source.random() < 0.7)]
            reports.append(cut_report(source, tale))
            if check_report(reports[1]) is None:
                word, value = plain_merge(reports)
                told[word] += 1
                if word == "merged":
                    self.merge(reports, value)
                elif word == "Mismatch":
                    assert_raises(self, Mismatch, "number", value, merge_reports, reports)
                    assert_raises(self, Mismatch, "number", value, gain, reports)
                else:
                    assert_raises(self, InvalidReport, "problem", value, merge_reports, reports)
                    assert_raises(self, InvalidReport, "problem", value, gain, reports)
        self.assertGreater(min(told.values()), 10)


class GainTests(unittest.TestCase):
    def gained(self, reports, pairs):
        with self.subTest(reports=reports):
            self.assertEqual(gain(reports), pairs)
            self.assertEqual(plain_gain(reports), pairs)

    def test_example(self):
        self.gained([((1, ("at", "a")),), ((2, ("then", "b")),)], [("a", "b")])

    def test_nothing_gained(self):
        self.gained([], [])
        self.gained([()], [])
        self.gained([((1, A), (2, B))], [])
        self.gained([((1, A), (2, B)), ((1, A), (2, B))], [])
        self.gained([((1, A), (2, B)), ((2, B),)], [])
        self.gained([((1, A),), ((3, B),)], [])

    def test_what_follows_from_several_reports(self):
        reports = [((1, A), (2, B)), ((2, B), (3, C))]
        # The second report does not say that a is before c: it does not report a.
        self.gained(reports, [("a", "c")])
        self.gained(reports + [((1, A), (2, B), (3, C))], [])
        self.gained([((1, A), (2, B)), ((5, ("at", "b")), (6, C))], [("a", "c")])

    def test_pairs_ascend(self):
        self.gained(
            [((1, ("at", "z")), (3, ("then", "x"))), ((2, ("then", "y")), (4, ("then", "ab")))],
            [("x", "ab"), ("y", "ab"), ("y", "x"), ("z", "ab"), ("z", "x"), ("z", "y")],
        )

    def test_what_is_at_the_same_time_is_no_gain(self):
        self.gained([((1, A),), ((2, ("with", "b")),)], [])
        self.gained([((1, A), (2, B)), ((3, ("with", "c")),)], [("a", "c")])

    def test_fresh_names_of_one_report_are_moments_of_another(self):
        # In the heard tale of the second report alone the gap is called a, and a is before b there.
        self.gained([((1, A),), ((2, B),)], [("a", "b")])
        self.gained([((1, ("at", "b")), (2, ("later", "c"))), ((3, ("then", "d")),)], [("b", "d")])
        self.assertEqual(heard_tale(((2, B),))[0], ("at", "a"))

    def test_fresh_names_of_the_merged_report_are_no_moments(self):
        self.gained([((3, B),), ((4, C),)], [("b", "c")])
        self.gained([((3, B), (5, ("then", "d"))), ((4, C),)], [("b", "c"), ("b", "d"), ("c", "d")])

    def test_drawn_lists(self):
        gained = 0
        for reports in drawn_lists(267, 250, 16) + drawn_lists(268, 250, 14, ("a", "b", "c", "d")):
            found = gain(reports)
            self.assertEqual(found, plain_gain(reports), reports)
            gained += len(found)
        self.assertGreater(gained, 100)

    def test_a_list_that_is_changed_has_no_effect(self):
        reports = [((1, A),), ((2, B),)]
        found = gain(reports)
        self.assertIs(type(found), list)
        found.clear()
        self.assertEqual(gain(reports), [("a", "b")])

    def test_the_order_of_the_reports_does_not_matter(self):
        for reports in drawn_lists(269, 60, 10):
            self.assertEqual(gain(reports[::-1]), gain(reports))
            self.assertEqual(merge_reports(reports[::-1]), merge_reports(reports))

    def test_gained_pairs_hold_in_the_tale(self):
        source = random.Random(271)
        for tale in drawn_tales(272, 60, 12):
            for a, b in gain([cut_report(source, tale) for _ in range(3)]):
                self.assertTrue(plain_reaches(tale, a, b))
                self.assertFalse(plain_reaches(tale, b, a))


class ErrorTests(unittest.TestCase):
    def raises(self, error, field, value, reports):
        for call in (merge_reports, gain):
            with self.subTest(call=call.__name__, reports=reports):
                assert_raises(self, error, field, value, call, reports)

    def test_the_first_bad_item(self):
        for report, problem in BAD_REPORTS:
            self.raises(InvalidReport, "problem", problem, [report])
            self.raises(InvalidReport, "problem", problem, [(), ((1, A),), report])
            for other, _ in BAD_REPORTS:
                self.raises(InvalidReport, "problem", problem, [((1, A),), report, other])

    def test_anything_as_an_item(self):
        for thing in ANYTHING:
            problem = check_report(thing)
            if problem is not None:
                self.raises(InvalidReport, "problem", problem, [thing])
                self.raises(InvalidReport, "problem", problem, [((1, A),), thing, None])

    def test_the_smallest_number_of_a_mismatch(self):
        self.raises(Mismatch, "number", 1, [((1, A),), ((1, ("at", "b")),)])
        self.raises(Mismatch, "number", 2, [((2, B),), ((2, ("back", "b")),)])
        self.raises(Mismatch, "number", 3, [((3, B), (7, B)), ((3, C), (7, C))])
        self.raises(Mismatch, "number", 3, [((7, B),), ((3, B), (7, C)), ((3, C),)])
        self.raises(Mismatch, "number", 4, [((3, B), (4, C)), ((3, B), (4, A)), ((9, A),)])
        self.raises(Mismatch, "number", 9, [((9, A),), (), ((9, B),)])
        self.raises(Mismatch, "number", 9, [((9, A), (10, A)), ((10, B),), ((9, B),)])

    def test_a_cycle_in_the_merged_report(self):
        self.raises(InvalidReport, "problem", ("cycle", 1), [((1, A),), ((2, ("then", "a")),)])
        self.raises(InvalidReport, "problem", ("cycle", 2), [((1, A), (3, ("then", "a"))), ((2, B),)])
        self.raises(InvalidReport, "problem", ("cycle", 3), [((4, A), (5, B)), ((8, ("at", "b")), (9, ("then", "a")))])

    def test_two_errors_at_once(self):
        bad = ((4, B), (5, B))
        self.assertEqual(check_report(bad), ("cycle", 1))
        self.raises(InvalidReport, "problem", ("cycle", 1), [((4, C),), bad])
        self.raises(InvalidReport, "problem", ("form",), [((1, A),), ((1, ("at", "b")),), None])
        self.raises(Mismatch, "number", 9, [((1, A), (9, A)), ((2, ("then", "a")), (9, B))])

    def test_a_cycle_alone_comes_before_the_merged_one(self):
        alone = ((7, A), (8, B), (9, ("then", "a")))
        self.raises(InvalidReport, "problem", ("cycle", 2), [((1, A),), ((2, ("then", "a")),), alone])


if __name__ == "__main__":
    unittest.main()
