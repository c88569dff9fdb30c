"""Point 11: check_report, heard_tale, check_fit and gap_stands."""

import itertools
import random
import unittest

from backthen.errors import InvalidReport, InvalidTale, NoFit
from backthen.orders import relation
from backthen.reports import check_fit, check_report, gap_stands, heard_tale
from backthen.tales import check_tale
from tests.helper import (
    ANYTHING, BAD_REPORTS, BAD_TALES, NAMES, WORDS, assert_raises, cut_report, drawn_sentences, drawn_tales, plain_cycle,
    plain_gaps, plain_heard, plain_links, plain_relation,
)

A, B = ("at", "a"), ("then", "b")


def drawn_reports(seed, many, longest, names=NAMES):
    """Drawn tuples of numbered sentences, many of them inconsistent."""
    source = random.Random(seed)
    found = []
    for _ in range(many):
        length = source.randint(1, longest)
        numbers = sorted(source.sample(range(1, length * 3), length))
        sentences = [(source.choice(WORDS), source.choice(names)) for _ in numbers]
        if numbers[0] == 1:
            sentences[0] = ("at", sentences[0][1])
        found.append(tuple(zip(numbers, sentences)))
    return found


def plain_check(thing):
    """What check_report must return, read off the document line by line."""
    if not isinstance(thing, tuple):
        return ("form",)
    for i, item in enumerate(thing):
        if not isinstance(item, tuple) or len(item) != 2:
            return ("item", i)
        number, sentence = item
        if type(number) is not int or not 1 <= number <= 10000 or not plain_sentence(sentence):
            return ("item", i)
        if (i > 0 and number <= thing[i - 1][0]) or (number == 1 and sentence[0] != "at"):
            return ("item", i)
    for i in range(len(thing)):
        if plain_cycle(plain_heard(thing[:i + 1])) is not None:
            return ("cycle", i)
    return None


def plain_sentence(thing):
    if not isinstance(thing, tuple) or len(thing) != 2 or thing[0] not in WORDS or not isinstance(thing[1], str):
        return False
    return 1 <= len(thing[1]) <= 8 and set(thing[1]) <= set("abcdefghijklmnopqrstuvwxyz")


class CheckTests(unittest.TestCase):
    def check(self, thing, problem):
        with self.subTest(thing=thing):
            self.assertEqual(check_report(thing), problem)
            self.assertEqual(plain_check(thing), problem)

    def test_example(self):
        self.check(((2, ("then", "b")), (2, ("then", "c"))), ("item", 1))

    def test_consistent_reports(self):
        self.check((), None)
        self.check(((1, A),), None)
        self.check(((10000, B),), None)
        self.check(((1, A), (10000, ("back", "a"))), None)
        self.check(((2, ("with", "a")), (3, B), (4, ("earlier", "a"))), None)

    def test_form(self):
        for thing in ANYTHING:
            if not isinstance(thing, tuple):
                self.check(thing, ("form",))
        self.check([(1, A)], ("form",))

    def test_items_of_no_form(self):
        for item in (*ANYTHING, A, [2, B], (2,), (2, B, B), (B, 2), (2, list(B)), (2, "then"), (2, ("then",)), (2, None)):
            self.check((item,), ("item", 0))
            self.check(((1, A), item), ("item", 1))
            self.check(((1, A), item, item), ("item", 1))

    def test_numbers(self):
        for number in (*ANYTHING, -1, 10001, 99999, "2", (2,)):
            if type(number) is not int or not 1 <= number <= 10000:
                self.check(((number, A),), ("item", 0))
                self.check(((1, A), (number, A)), ("item", 1))
        self.check(((True, A),), ("item", 0))
        self.check(((0, A),), ("item", 0))
        self.check(((10001, A),), ("item", 0))
        self.check(((9999, A), (10000, A), (10001, A)), ("item", 2))

    def test_numbers_ascend(self):
        self.check(((2, A), (1, A)), ("item", 1))
        self.check(((1, A), (3, B), (3, B)), ("item", 2))
        self.check(((1, A), (5, B), (4, B), (6, B)), ("item", 2))
        self.check(((3, A), (4, A), (3, A)), ("item", 2))

    def test_sentences(self):
        for sentence in (("At", "a"), ("then", ""), ("then", "A"), ("", "a"), ("then", "abcdefghi"), ("then", 1), (None, "a")):
            self.check(((4, sentence),), ("item", 0))
        self.check(((4, ("then", "abcdefgh")),), None)

    def test_the_first_sentence_of_a_tale_is_told_by_at(self):
        for word in WORDS:
            self.check(((1, (word, "a")),), None if word == "at" else ("item", 0))
            self.check(((2, (word, "a")),), None)
            self.check(((1, A), (2, (word, "b"))), None)

    def test_cycles(self):
        self.check(((1, A), (2, ("then", "a"))), ("cycle", 1))
        self.check(((1, A), (2, B), (3, ("then", "a"))), ("cycle", 2))
        self.check(((1, A), (2, B), (3, ("with", "a")), (4, ("then", "a"))), ("cycle", 2))
        self.check(((4, A), (5, ("later", "b")), (6, ("earlier", "b")), (7, ("then", "a"))), ("cycle", 2))

    def test_a_gap_opens_a_cycle(self):
        self.check(((1, A), (3, ("then", "a"))), None)
        self.check(((1, A), (2, B), (4, ("then", "a"))), None)
        self.check(((2, ("then", "a")), (3, ("then", "a"))), ("cycle", 1))
        self.check(((2, ("then", "a")), (4, ("then", "a"))), None)
        self.check(((1, A), (3, B), (4, ("with", "a")), (6, A), (7, B)), ("cycle", 4))
        self.check(((1, A), (3, B), (5, ("at", "b")), (7, ("later", "c")), (8, ("earlier", "c"))), ("cycle", 4))

    def test_a_cycle_through_the_moment_of_a_gap(self):
        # Whatever moment the gap ends at, it would be before b and not before it.
        self.check(((3, ("later", "b")), (4, ("earlier", "b"))), ("cycle", 1))
        self.check(((3, ("later", "b")), (4, ("with", "b"))), ("cycle", 1))
        self.check(((3, ("later", "b")), (6, ("earlier", "b"))), None)
        self.check(((1, A), (7, ("with", "a")), (8, ("with", "b")), (9, ("at", "a")), (10, ("then", "b"))), ("cycle", 4))

    def test_two_problems_at_once(self):
        self.check([(1, A), None], ("form",))
        self.check(((1, A), (2, ("then", "a")), None), ("item", 2))
        self.check(((1, A), (2, ("then", "a")), (2, A)), ("item", 2))
        self.check(((1, A), (2, ("then", "a")), (3, ("then", "a"))), ("cycle", 1))
        self.check(((1, B), (1, B)), ("item", 0))
        self.check(((5, A), (4, None), None), ("item", 1))

    def test_drawn_reports(self):
        cycles = 0
        for thing in drawn_reports(231, 400, 8) + drawn_reports(232, 200, 12, ("a", "b", "c")):
            self.assertEqual(check_report(thing), plain_check(thing), thing)
            cycles += check_report(thing) is not None
        self.assertGreater(cycles, 50)

    def test_a_report_of_a_drawn_tale_is_consistent(self):
        source = random.Random(233)
        for tale in drawn_tales(234, 150, 12):
            self.assertIsNone(check_report(cut_report(source, tale)), tale)

    def test_a_report_without_gaps_is_as_its_tale(self):
        source = random.Random(235)
        for _ in range(200):
            sentences = drawn_sentences(source, source.randint(1, 7), NAMES[:4])
            problem = check_tale(sentences)
            self.assertEqual(check_report(tuple(enumerate(sentences, 1))), problem, sentences)

    def test_a_report_is_consistent_if_it_fits_a_consistent_tale(self):
        # The gap of one sentence is filled with every sentence there could be.
        for report in drawn_reports(237, 120, 4, ("a", "b", "c")):
            numbers = [number for number, _ in report]
            missing = [number for number in range(1, numbers[-1]) if number not in numbers]
            if len(missing) == 1:
                fits = False
                for sentence in itertools.product(WORDS, ("a", "b", "c", "q")):
                    told = dict(report)
                    told[missing[0]] = sentence
                    fits = fits or check_tale(tuple(told[number] for number in sorted(told))) is None
                self.assertEqual(check_report(report) is None, fits, report)


class HeardTests(unittest.TestCase):
    def test_example(self):
        report = ((1, ("at", "a")), (4, ("then", "b")), (5, ("then", "d")))
        self.assertEqual(heard_tale(report), (("at", "a"), ("at", "c"), ("then", "b"), ("then", "d")))

    def test_without_gaps(self):
        self.assertEqual(heard_tale(()), ())
        self.assertEqual(heard_tale(((1, A), (2, B))), (A, B))

    def test_gaps_at_the_start_and_of_any_length(self):
        self.assertEqual(heard_tale(((2, B),)), (("at", "a"), B))
        self.assertEqual(heard_tale(((9, A),)), (("at", "b"), A))
        self.assertEqual(heard_tale(((9, ("then", "a")), (10000, B))), (("at", "c"), ("then", "a"), ("at", "d"), B))

    def test_nothing_stands_behind_the_last_item(self):
        self.assertEqual(heard_tale(((1, A), (2, B)))[-1], B)

    def test_fresh_names_are_no_moments_of_the_whole_report(self):
        report = ((2, ("then", "c")), (4, ("at", "a")), (6, ("with", "d")), (7, ("then", "b")))
        self.assertEqual([moment for word, moment in heard_tale(report) if word == "at"], ["e", "f", "a", "g"])

    def test_more_than_26_gaps(self):
        report = tuple((2 * k, ("at", "z")) for k in range(1, 61))
        names = [moment for _, moment in heard_tale(report)[::2]]
        self.assertEqual(names[:25] + names[25:28], list("abcdefghijklmnopqrstuvwxy") + ["aa", "ab", "ac"])
        # A word is as good a name as any.
        self.assertIn("at", names)
        self.assertEqual(names[-1], "bi")
        self.assertEqual(heard_tale(report), plain_heard(report))

    def test_candidates_of_two_letters_that_are_moments(self):
        report = tuple((2 * k, ("at", ("aa", "ac", "b", "zz")[k % 4])) for k in range(1, 40))
        names = [moment for _, moment in heard_tale(report)[::2]]
        self.assertEqual(names[:2] + names[24:27], ["a", "c", "z", "ab", "ad"])
        self.assertEqual(heard_tale(report), plain_heard(report))

    def test_shorter_names_come_first(self):
        report = tuple((2 * k, ("at", "ab")) for k in range(1, 30))
        self.assertEqual([moment for _, moment in heard_tale(report)[::2]][24:], ["y", "z", "aa", "ac", "ad"])

    def test_kinds(self):
        told = heard_tale(((2, A), (3, B)))
        self.assertEqual((type(told), {type(sentence) for sentence in told}), (tuple, {tuple}))

    def test_drawn_reports(self):
        for report in drawn_reports(241, 300, 8):
            if check_report(report) is None:
                self.assertEqual(heard_tale(report), plain_heard(report), report)
                self.assertIsNone(check_tale(heard_tale(report)), report)

    def test_what_a_listener_hears_holds_in_the_tale(self):
        source = random.Random(243)
        known = 0
        for tale in drawn_tales(244, 150, 12):
            report = cut_report(source, tale)
            heard = heard_tale(report)
            names = sorted({moment for _, (_, moment) in report})
            for a, b in itertools.product(names, repeat=2):
                found = relation(heard, a, b)
                if found != "unknown":
                    known += a != b
                    self.assertEqual(plain_relation(tale, a, b), found, (tale, report, a, b))
        self.assertGreater(known, 100)

    def test_what_all_tales_say_that_fit_is_heard(self):
        # The gap of one sentence is filled with every sentence there could be.
        for report in (
            ((1, A), (2, ("later", "b")), (4, ("then", "c")), (5, ("back", "b"))),
            ((1, A), (3, ("then", "b")), (4, ("with", "c"))), ((2, ("then", "b")), (3, ("earlier", "c")), (4, ("with", "d"))),
        ):
            missing = next(n for n in itertools.count(1) if n not in dict(report))
            fits = []
            for sentence in itertools.product(WORDS, ("a", "b", "c", "d", "q")):
                told = {**dict(report), missing: sentence}
                tale = tuple(told[number] for number in sorted(told))
                if check_tale(tale) is None:
                    fits.append(tale)
            names = sorted({moment for _, (_, moment) in report})
            for a, b in itertools.product(names, repeat=2):
                told = {plain_relation(tale, a, b) for tale in fits}
                self.assertEqual(relation(heard_tale(report), a, b), told.pop() if len(told) == 1 else "unknown")


class FitTests(unittest.TestCase):
    def fit(self, report, tale, number):
        with self.subTest(report=report, tale=tale):
            self.assertEqual(check_fit(report, tale), number)

    def test_example(self):
        self.fit(((1, A), (3, ("then", "c"))), (A, B), 3)

    def test_reports_that_fit(self):
        self.fit((), (), None)
        self.fit((), (A, B), None)
        self.fit(((1, A),), (A, B), None)
        self.fit(((2, B),), (A, B), None)
        self.fit(((1, A), (2, B)), (A, B), None)
        self.fit(((3, ("then", "c")),), (A, B, ("then", "c")), None)

    def test_numbers_behind_the_end(self):
        self.fit(((1, A),), (), 1)
        self.fit(((2, B),), (), 2)
        self.fit(((2, B),), (A,), 2)
        self.fit(((10000, B),), (A, B), 10000)
        self.fit(((2, B), (3, ("then", "c")), (4, ("then", "d"))), (A, B), 3)

    def test_another_word_or_moment(self):
        self.fit(((2, ("later", "b")),), (A, B), 2)
        self.fit(((2, ("then", "c")),), (A, B), 2)
        self.fit(((1, ("at", "b")),), (A, B), 1)
        self.fit(((1, A), (2, ("back", "b"))), (A, B), 2)

    def test_the_smallest_number(self):
        self.fit(((1, A), (2, ("then", "c")), (7, B)), (A, B), 2)
        self.fit(((2, ("then", "c")), (3, ("then", "d")), (4, ("then", "e"))), (A, B, ("then", "d"), ("then", "f")), 2)

    def test_drawn_reports(self):
        source = random.Random(247)
        found = {True: 0, False: 0}
        for tale in drawn_tales(248, 200, 8, NAMES[:4]):
            report = cut_report(source, tale)
            self.assertIsNone(check_fit(report, tale))
            other = list(report)
            if other:
                i = source.randrange(len(other))
                word = source.choice(WORDS) if other[i][0] > 1 else "at"
                other[i] = (other[i][0], (word, source.choice(NAMES[:4])))
            if check_report(tuple(other)) is None:
                wrong = [number for number, sentence in other if tale[number - 1] != sentence]
                self.assertEqual(check_fit(tuple(other), tale), min(wrong, default=None), (tale, other))
                found[wrong == []] += 1
            shorter = tale[:-1]
            numbers = [number for number, _ in report if number > len(shorter)]
            self.assertEqual(check_fit(report, shorter), min(numbers, default=None))
        self.assertGreater(min(found.values()), 20)


class StandTests(unittest.TestCase):
    def test_example(self):
        tale = (("at", "a"), ("then", "x"), ("then", "c"))
        self.assertEqual(gap_stands(((1, ("at", "a")), (3, ("then", "c"))), tale), {"b": "x"})

    def test_the_stand_at_the_end_of_the_gap(self):
        tale = (("at", "m"), ("then", "n"), ("later", "o"), ("with", "p"), ("back", "q"), ("earlier", "r"), ("at", "s"))
        for number, stand in ((2, "m"), (3, "n"), (4, "n"), (5, "n"), (6, "q"), (7, "q")):
            self.assertEqual(gap_stands(((number, tale[number - 1]),), tale), {"a": stand})
        report = tuple((number, tale[number - 1]) for number in (2, 4, 7))
        self.assertEqual(list(gap_stands(report, tale).items()), [("a", "m"), ("b", "n"), ("c", "q")])

    def test_no_gaps(self):
        self.assertEqual(gap_stands((), (A, B)), {})
        self.assertEqual(gap_stands(((1, A),), (A, B)), {})
        self.assertEqual(gap_stands((), ()), {})

    def test_the_order_of_the_dict(self):
        tale = tuple(("at", "ab"[k % 2]) for k in range(200))
        report = tuple((number, tale[number - 1]) for number in range(2, 201, 2))
        found = gap_stands(report, tale)
        self.assertEqual(list(found), [moment for _, moment in plain_heard(report)[::2]])
        # Behind z comes aa, which does not come in alphabetical order.
        self.assertEqual(list(found)[:26], list("acdefghijklmnopqrstuvwxyz") + ["aa"])
        self.assertEqual(set(found.values()), {"a"})

    def test_a_dict_that_is_changed_has_no_effect(self):
        report, tale = ((2, B),), (A, B)
        found = gap_stands(report, tale)
        self.assertIs(type(found), dict)
        found.clear()
        self.assertEqual(gap_stands(report, tale), {"a": "a"})

    def test_all_relations_of_the_heard_tale_hold_in_the_tale(self):
        source = random.Random(251)
        gaps = 0
        for tale in drawn_tales(252, 150, 12):
            report = cut_report(source, tale)
            found = gap_stands(report, tale)
            heard = heard_tale(report)
            self.assertEqual(list(found), [heard[k][1] for k in plain_gaps(report)])
            gaps += len(found)
            for link in plain_links(heard):
                if link is not None:
                    first, second = (found.get(moment, moment) for moment in link[:2])
                    self.assertEqual(plain_relation(tale, first, second), "before" if link[2] else "same")
        self.assertGreater(gaps, 100)

    def test_no_fit(self):
        for report, tale, number in (
            (((1, A), (3, ("then", "c"))), (A, B), 3), (((2, ("then", "c")), (3, B)), (A, B), 2), (((4, B),), (), 4),
        ):
            assert_raises(self, NoFit, "number", number, gap_stands, report, tale)


class ErrorTests(unittest.TestCase):
    def test_invalid_reports(self):
        for report, problem in BAD_REPORTS:
            self.assertEqual(check_report(report), problem)
            assert_raises(self, InvalidReport, "problem", problem, heard_tale, report)
            assert_raises(self, InvalidReport, "problem", problem, check_fit, report, (A, B))
            assert_raises(self, InvalidReport, "problem", problem, gap_stands, report, (A, B))

    def test_anything_as_a_report(self):
        for thing in ANYTHING:
            problem = plain_check(thing)
            if problem is not None:
                assert_raises(self, InvalidReport, "problem", problem, heard_tale, thing)
                assert_raises(self, InvalidReport, "problem", problem, check_fit, thing, ())
                assert_raises(self, InvalidReport, "problem", problem, gap_stands, thing, ())

    def test_invalid_tales(self):
        for tale, problem in BAD_TALES:
            for report in ((), ((1, A),), ((7, B),)):
                assert_raises(self, InvalidTale, "problem", problem, check_fit, report, tale)
                assert_raises(self, InvalidTale, "problem", problem, gap_stands, report, tale)

    def test_an_invalid_report_comes_before_an_invalid_tale(self):
        for report, problem in BAD_REPORTS:
            for tale in [tale for tale, _ in BAD_TALES] + list(ANYTHING):
                assert_raises(self, InvalidReport, "problem", problem, check_fit, report, tale)
                assert_raises(self, InvalidReport, "problem", problem, gap_stands, report, tale)

    def test_an_invalid_tale_comes_before_no_fit(self):
        tale = (("at", "a"), ("then", "b"), ("then", "a"))
        assert_raises(self, InvalidTale, "problem", ("cycle", 2), gap_stands, ((4, B),), tale)


if __name__ == "__main__":
    unittest.main()
