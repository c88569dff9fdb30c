"""Point 9: nth_timeline, timeline_rank and middle_pair."""

import itertools
import math
import random
import unittest

from backthen.counts import count_timelines, share
from backthen.errors import InvalidTale, InvalidTimeline, OutOfRange, TooLarge
from backthen.orders import check_timeline, cycle_rank, first_timeline
from backthen.ranking import middle_pair, nth_timeline, timeline_rank
from tests.helper import (
    ANYTHING, BAD_TALES, assert_raises, chain, crown, drawn_forests, drawn_pairs, drawn_tales, layers,
    many_names, plain_fraction, plain_groups, plain_precedence, plain_timelines, zigzag,
)

TALE = (("at", "a"), ("then", "b"), ("at", "c"))
LINES = [(("a",), ("b",), ("c",)), (("a",), ("c",), ("b",)), (("c",), ("a",), ("b",))]
NAMES = many_names(61)
SMALL = ("b", "a", "ab", "z", "aa", "c")


def small_tales():
    """Drawn tales of a few groups, some of them with cycles of covers."""
    source = random.Random(101)
    pairs = [drawn_pairs(source, SMALL, source.randint(4, 9)) for _ in range(40)]
    return drawn_tales(103, 60, 10, SMALL) + pairs


def plain_middle(tale):
    """What middle_pair must return, counted over all timelines of a small tale."""
    lines, pairs = plain_timelines(tale), plain_precedence(tale)
    found = []
    for g, h in itertools.combinations(plain_groups(tale), 2):
        if (g, h) not in pairs and (h, g) not in pairs:
            count = sum(line.index(g) < line.index(h) for line in lines)
            found.append((abs(2 * count - len(lines)), g, h, plain_fraction(count, len(lines))))
    return (min(found)[1][0], min(found)[2][0], min(found)[3]) if found else None


class RankTests(unittest.TestCase):
    def test_examples(self):
        self.assertEqual(nth_timeline(TALE, 1), LINES[1])
        assert_raises(self, OutOfRange, "count", 3, nth_timeline, TALE, 3)
        self.assertEqual(timeline_rank(TALE, LINES[2]), 2)

    def test_all_numbers(self):
        self.assertEqual([nth_timeline(TALE, k) for k in range(3)], LINES)
        self.assertEqual([timeline_rank(TALE, line) for line in LINES], [0, 1, 2])

    def test_empty_tale(self):
        self.assertEqual((nth_timeline((), 0), timeline_rank((), ())), ((), 0))
        assert_raises(self, OutOfRange, "count", 1, nth_timeline, (), 1)

    def test_groups_are_compared_as_tuples(self):
        tale = (("at", "b"), ("with", "ab"), ("at", "a"), ("with", "z"), ("at", "aa"))
        self.assertEqual(nth_timeline(tale, 0), (("a", "z"), ("aa",), ("ab", "b")))
        self.assertEqual(nth_timeline(tale, 5), (("ab", "b"), ("aa",), ("a", "z")))

    def test_small_tales_against_all_timelines(self):
        rings = 0
        for tale in small_tales():
            lines = sorted(plain_timelines(tale))
            rings += cycle_rank(tale) > 0
            numbers = range(0, len(lines), max(1, len(lines) // 40))
            for k in (*numbers, len(lines) - 1):
                self.assertEqual(nth_timeline(tale, k), lines[k], (tale, k))
                self.assertEqual(timeline_rank(tale, lines[k]), k, (tale, k))
            assert_raises(self, OutOfRange, "count", len(lines), nth_timeline, tale, len(lines))
            self.assertEqual(nth_timeline(tale, 0), first_timeline(tale))
        self.assertGreater(rings, 3)

    def test_twelve_groups_with_a_cycle_of_covers(self):
        for tale in (crown(NAMES[:12]), layers([NAMES[:6], NAMES[6:12]])):
            count = count_timelines(tale)
            self.check_numbers(tale, (0, 1, count // 3, count // 2, count - 2, count - 1))
            assert_raises(self, OutOfRange, "count", count, nth_timeline, tale, count)
        row = [(name,) for name in NAMES[:12]]
        last = layers([NAMES[:6], NAMES[6:12]])
        self.assertEqual(nth_timeline(last, math.factorial(6) ** 2 - 1), (*row[5::-1], *row[:5:-1]))

    def check_numbers(self, tale, numbers):
        """The timelines with these numbers have these ranks, and ascend."""
        lines = []
        for k in sorted(set(numbers)):
            line = nth_timeline(tale, k)
            self.assertIsNone(check_timeline(tale, line))
            self.assertEqual(timeline_rank(tale, line), k)
            lines.append(line)
        for line, following in zip(lines, lines[1:]):
            self.assertLess(line, following)

    def test_forests_of_forty_groups(self):
        source = random.Random(107)
        tales = [chain("at", NAMES[:40]), chain("later", NAMES[:40]), chain("earlier", NAMES[:40]), zigzag(NAMES[:40])]
        for tale in tales + drawn_forests(109, (13, 25, 40, 40)):
            count = count_timelines(tale)
            drawn = source.randrange(count - 1)
            self.check_numbers(tale, (0, 1, drawn, drawn + 1, count - 2, count - 1))
            assert_raises(self, OutOfRange, "count", count, nth_timeline, tale, count)

    def test_orders_of_unrelated_groups(self):
        tale = chain("at", NAMES[:40])
        singles = [(name,) for name in NAMES[:40]]
        self.assertEqual(nth_timeline(tale, math.factorial(40) - 1), tuple(singles[::-1]))
        self.assertEqual(nth_timeline(tale, math.factorial(39) * 7)[:3], (singles[7], singles[0], singles[1]))
        self.assertEqual(timeline_rank(tale, (*singles[:38], singles[39], singles[38])), 1)
        self.assertEqual(timeline_rank(tale, (singles[39], *singles[:39])), math.factorial(39) * 39)

    def test_a_chain_of_forty_groups(self):
        tale = chain("back", NAMES[:40])
        self.assertEqual(nth_timeline(tale, 0), tuple((name,) for name in NAMES[39::-1]))
        assert_raises(self, OutOfRange, "count", 1, nth_timeline, tale, 1)

    def test_kinds(self):
        line = nth_timeline(TALE, 1)
        self.assertEqual((type(line), {type(group) for group in line}), (tuple, {tuple}))
        self.assertIs(type(timeline_rank(TALE, line)), int)
        self.assertIs(type(timeline_rank((), ())), int)


class RankErrorTests(unittest.TestCase):
    def test_out_of_range(self):
        for tale, count in ((TALE, 3), (crown(NAMES[:5]), 20), ((), 1)):
            for k in (*ANYTHING, -1, count, count + 1, 10 ** 50, "0", (0,), [1]):
                if type(k) is not int or not 0 <= k < count:
                    assert_raises(self, OutOfRange, "count", count, nth_timeline, tale, k)

    def test_invalid_timelines(self):
        wrong = (("b",), ("a",), ("c",))
        for thing in (*ANYTHING, LINES[0][:2], wrong, list(LINES[0]), (["a"], ["b"], ["c"]), LINES[0] + (("a",),)):
            problem = check_timeline(TALE, thing)
            assert_raises(self, InvalidTimeline, "problem", problem, timeline_rank, TALE, thing)
        assert_raises(self, InvalidTimeline, "problem", ("order", ("a",), ("b",)), timeline_rank, TALE, wrong)

    def test_invalid_timeline_before_too_large(self):
        for tale in (chain("at", NAMES[:41]), crown(NAMES[:13])):
            assert_raises(self, InvalidTimeline, "problem", ("form",), timeline_rank, tale, None)
            found = ("missing", (NAMES[0],))
            assert_raises(self, InvalidTimeline, "problem", found, timeline_rank, tale, ())

    def test_too_large(self):
        tales = [chain("at", NAMES[:41]), crown(NAMES[:13]), chain("then", NAMES[:41]), zigzag(NAMES[:60])]
        for tale in tales:
            for k in (0, -1, None, True):
                with self.assertRaises(TooLarge):
                    nth_timeline(tale, k)
            with self.assertRaises(TooLarge):
                timeline_rank(tale, first_timeline(tale))

    def test_invalid_tale_comes_first(self):
        large = (chain("then", NAMES) + (("then", NAMES[0]),), ("cycle", 61))
        for tale, problem in (*BAD_TALES, large):
            assert_raises(self, InvalidTale, "problem", problem, nth_timeline, tale, None)
            assert_raises(self, InvalidTale, "problem", problem, timeline_rank, tale, None)
            assert_raises(self, InvalidTale, "problem", problem, middle_pair, tale)


class MiddlePairTests(unittest.TestCase):
    def test_example(self):
        self.assertEqual(middle_pair(TALE), ("a", "c", (2, 3)))

    def test_exactly_one_timeline(self):
        for tale in ((), (("at", "a"),), (("at", "b"), ("with", "a")), chain("then", "dbca"), chain("back", NAMES[:12])):
            self.assertIsNone(middle_pair(tale))

    def test_the_least_of_equally_near_pairs(self):
        self.assertEqual(middle_pair(chain("at", "dcba")), ("a", "b", (1, 2)))
        # 1/3 and 2/3 are equally near to one half, so the pair decides, be its share the greater or not.
        self.assertEqual(middle_pair((("at", "b"), ("then", "c"), ("at", "a"))), ("a", "b", (1, 3)))
        self.assertEqual(middle_pair((("at", "a"), ("then", "c"), ("at", "b"))), ("a", "b", (2, 3)))

    def test_the_nearest_pair_is_not_always_the_least(self):
        self.assertEqual(middle_pair(chain("then", "bcd") + (("at", "a"),)), ("a", "c", (1, 2)))

    def test_least_moments_of_the_groups(self):
        tale = (("at", "z"), ("with", "b"), ("at", "y"), ("with", "c"), ("with", "a"))
        self.assertEqual(middle_pair(tale), ("a", "b", (1, 2)))

    def test_small_tales_against_all_pairs(self):
        for tale in small_tales():
            self.assertEqual(middle_pair(tale), plain_middle(tale), tale)

    def test_twelve_groups(self):
        self.assertEqual(middle_pair(chain("at", NAMES[:12])), ("maa", "mab", (1, 2)))
        self.assertEqual(middle_pair(layers([NAMES[:6], NAMES[6:12]])), ("maa", "mab", (1, 2)))
        for tale in drawn_forests(113, (10, 11, 12, 12)):
            one, other, found = middle_pair(tale)
            self.assertEqual(found, share(tale, one, other))
            best = abs(2 * found[0] - found[1]) * 10 ** 9 // found[1]
            for (g, *_), (h, *_) in itertools.combinations(plain_groups(tale), 2):
                n, of = share(tale, g, h)
                self.assertGreaterEqual(abs(2 * n - of) * 10 ** 9 // of, best)

    def test_too_large(self):
        for tale in (chain("at", NAMES[:13]), chain("then", NAMES[:13]), crown(NAMES[:13]), chain("then", NAMES)):
            with self.assertRaises(TooLarge):
                middle_pair(tale)
        together = chain("at", NAMES[:12]) + tuple(("with", name) for name in NAMES[12:40])
        self.assertEqual(middle_pair(together), ("maa", "mab", (1, 2)))

    def test_kinds(self):
        found = middle_pair(TALE)
        self.assertEqual((type(found), [type(item) for item in found]), (tuple, [str, str, tuple]))
        self.assertEqual([type(item) for item in found[2]], [int, int])


if __name__ == "__main__":
    unittest.main()
