"""Point 8: share_terms and check_share_terms."""

import itertools
import math
import random
import unittest

from backthen.counts import check_share_terms, count_timelines, share, share_terms
from backthen.errors import InvalidTale, NotForest, TooLarge, UnknownMoment
from backthen.orders import cycle_rank
from tests.helper import (
    ANYTHING, BAD_TALES, assert_raises, chain, crown, drawn_forests, drawn_tales, many_names, plain_arrangements,
    plain_components, plain_covers, plain_fraction, plain_group, plain_moments, plain_timelines, zigzag,
)

LOW = (("at", "m"), ("earlier", "a"), ("earlier", "b"))
TERM = ((("a",), ("m",)), 1)
# The groups a to e on a path with three rising covers from a to e: (a, b), (b, c), (d, e).
PATH = (("at", "a"), ("then", "b"), ("then", "c"), ("back", "d"), ("then", "e"))
NAMES = many_names(61)


def plain_path(pairs, start, goal, passed=()):
    """The groups on the path of covers from start to goal, None if there is none."""
    if start == goal:
        return [start]
    for one, other in pairs:
        for here, there in ((one, other), (other, one)):
            if here == start and there not in passed:
                path = plain_path(pairs, there, goal, (*passed, start))
                if path is not None:
                    return [start, *path]
    return None


def plain_terms(tale, a, b):
    """What share_terms must return, counted over all arrangements of a small tale."""
    one, other = plain_group(tale, a), plain_group(tale, b)
    pairs = plain_covers(tale)
    if one == other:
        return ()
    if not any(one in part and other in part for part in plain_components(tale)):
        return ((None, sum(line.index(one) < line.index(other) for line in plain_timelines(tale))),)
    path = plain_path(pairs, one, other)
    rising = [pair for pair in zip(path, path[1:]) if pair in pairs]
    terms = []
    for i, cover in enumerate(rising):
        count = 0
        for place in plain_arrangements(tale):
            reverse = all(place[h] < place[g] for g, h in rising[:i])
            hold = all(place[g] < place[h] for g, h in pairs if (g, h) not in rising[:i + 1])
            count += reverse and hold and place[one] < place[other]
        terms.append((cover, count))
    return tuple(terms)


def plain_check(terms, thing):
    """What check_share_terms must return, if terms are the right ones."""
    if not isinstance(thing, tuple) or not all(isinstance(item, tuple) and len(item) == 2 for item in thing):
        return ("form",)
    if len(thing) != len(terms):
        return ("length",)
    for i in range(len(terms)):
        if thing[i][0] != terms[i][0]:
            return ("cover", i)
    for i in range(len(terms)):
        if type(thing[i][1]) is not int or thing[i][1] != terms[i][1]:
            return ("count", i)
    return None


def alternating(terms):
    return sum(count * (-1) ** i for i, (_, count) in enumerate(terms))


class TermTests(unittest.TestCase):
    def test_example(self):
        self.assertEqual(share_terms(LOW, "a", "b"), (TERM,))

    def test_one_group(self):
        tale = (("at", "a"), ("with", "b"), ("then", "c"))
        self.assertEqual((share_terms(tale, "a", "b"), share_terms(tale, "c", "c")), ((), ()))

    def test_different_components(self):
        tale = (("at", "a"), ("then", "b"), ("at", "c"))
        self.assertEqual(share_terms(tale, "a", "c"), ((None, 2),))
        self.assertEqual(share_terms(tale, "c", "a"), ((None, 1),))
        self.assertEqual(share_terms(tale, "b", "c"), ((None, 1),))

    def test_paths_without_rising_covers(self):
        self.assertEqual(share_terms(chain("then", "abc"), "c", "a"), ())
        self.assertEqual(share_terms(chain("then", "abc"), "b", "a"), ())

    def test_paths_with_rising_covers(self):
        self.assertEqual(share_terms(chain("then", "ab"), "a", "b"), (((("a",), ("b",)), 1),))
        found = share_terms(PATH, "a", "e")
        self.assertEqual([cover for cover, _ in found], [(("a",), ("b",)), (("b",), ("c",)), (("d",), ("e",))])
        self.assertEqual(found, plain_terms(PATH, "a", "e"))
        self.assertEqual([cover for cover, _ in share_terms(PATH, "e", "a")], [(("d",), ("c",))])
        self.assertEqual(share_terms(PATH, "e", "a"), plain_terms(PATH, "e", "a"))

    def test_kinds(self):
        for terms in (share_terms(PATH, "a", "e"), share_terms((("at", "a"), ("at", "b")), "a", "b")):
            self.assertIs(type(terms), tuple)
            self.assertEqual({(type(term), len(term), type(term[1])) for term in terms}, {(tuple, 2, int)})

    def test_drawn_forests_against_all_arrangements(self):
        source = random.Random(71)
        tales = drawn_forests(73, [source.randint(2, 6) for _ in range(30)])
        tales += drawn_forests(74, [source.randint(4, 7) for _ in range(12)], ("later", "earlier", "with"))
        tales += [tale for tale in drawn_tales(75, 60, 8, ("b", "a", "ab", "z", "c")) if cycle_rank(tale) == 0]
        longest = 0
        for tale in tales:
            for a, b in itertools.product(plain_moments(tale), repeat=2):
                terms = plain_terms(tale, a, b)
                longest = max(longest, len(terms))
                self.assertEqual(share_terms(tale, a, b), terms, (tale, a, b))
        self.assertGreater(longest, 2)

    def test_the_terms_give_the_share_of_larger_forests(self):
        source = random.Random(79)
        for tale in (*drawn_forests(83, (13, 20, 40, 60)), zigzag(NAMES[:60]), chain("then", NAMES[:60])):
            total = count_timelines(tale)
            for a, b in [source.sample(plain_moments(tale), 2) for _ in range(4)] + [(NAMES[0], NAMES[12])]:
                terms = share_terms(tale, a, b)
                self.assertEqual(plain_fraction(alternating(terms), total), share(tale, a, b), (tale, a, b))
                self.assertEqual(alternating(terms) + alternating(share_terms(tale, b, a)), total)
                self.assertIsNone(check_share_terms(tale, a, b, terms))

    def test_large_counts(self):
        star = chain("earlier", NAMES[:60])
        # With its cover ignored, b still has to stand behind the other one.
        self.assertEqual(
            share_terms(star, NAMES[1], NAMES[2]),
            ((((NAMES[1],), (NAMES[0],)), math.factorial(59) // 2),),
        )
        self.assertEqual(share_terms(chain("at", NAMES[:60]), "maa", "mab"), ((None, math.factorial(60) // 2),))


class CheckTests(unittest.TestCase):
    def check(self, thing, problem, tale=LOW, a="a", b="b"):
        with self.subTest(thing=thing, a=a, b=b):
            self.assertEqual(check_share_terms(tale, a, b, thing), problem)

    def test_example(self):
        self.check((((("a",), ("m",)), 2),), ("count", 0))
        self.check((TERM,), None)

    def test_form(self):
        for thing in ANYTHING:
            if thing != () and thing != (("a",),):
                self.check(thing, ("form",))
        for thing in ([TERM], (list(TERM),), (TERM, None), (TERM[:1],), (TERM + (0,),), TERM, (("a",),), (TERM, ())):
            self.check(thing, ("form",))

    def test_length(self):
        self.check((), ("length",))
        self.check((TERM, TERM), ("length",))
        self.check((TERM,), ("length",), b="a")
        self.check((), None, b="a")
        self.check(((None, 0),), ("length",), chain("then", "ab"), "b", "a")
        self.check((), None, chain("then", "ab"), "b", "a")

    def test_cover(self):
        for cover in (*ANYTHING, (("m",), ("a",)), (("b",), ("m",)), [("a",), ("m",)], (["a"], ["m"]), ("a", "m")):
            self.check(((cover, 1),), ("cover", 0))
        apart = (("at", "a"), ("at", "b"))
        self.check(((None, 1),), None, apart)
        for cover in (*ANYTHING, (("a",), ("b",)), False, 0, ()):
            if cover is not None:
                self.check(((cover, 1),), ("cover", 0), apart)
        terms = share_terms(PATH, "a", "e")
        self.check((terms[0], terms[2], terms[1]), ("cover", 1), PATH, "a", "e")
        self.check((*terms[:2], (None, terms[2][1])), ("cover", 2), PATH, "a", "e")

    def test_count(self):
        for count in (*ANYTHING, 2, -1, "1", (1,)):
            if count != 1 or count is True:
                self.check(((TERM[0], count),), ("count", 0))
        self.check(((None, True),), ("count", 0), (("at", "a"), ("at", "b")))
        terms = share_terms(PATH, "a", "e")
        for i in range(3):
            for count in (terms[i][1] + 1, terms[i][1] - 1, None, str(terms[i][1])):
                wrong = terms[:i] + ((terms[i][0], count),) + terms[i + 1:]
                self.check(wrong, ("count", i), PATH, "a", "e")

    def test_two_problems_at_once(self):
        terms = share_terms(PATH, "a", "e")
        self.check((TERM, None, ()), ("form",))
        self.check((("x", 9), ("y", 9)), ("length",))
        self.check((("x", 9),), ("cover", 0))
        self.check(((terms[0][0], None), terms[1], (None, 1)), ("cover", 2), PATH, "a", "e")
        self.check(((terms[0][0], None), (None, 0), (None, 1)), ("cover", 1), PATH, "a", "e")
        self.check((terms[0], (terms[1][0], -1), (terms[2][0], -1)), ("count", 1), PATH, "a", "e")

    def test_drawn_things(self):
        source = random.Random(89)
        for tale in drawn_forests(97, [5] * 25):
            a, b = source.sample(plain_moments(tale), 2)
            terms = plain_terms(tale, a, b)
            self.check(terms, None, tale, a, b)
            counts = [count for _, count in terms] + [0, 1, True, None]
            covers = [cover for cover, _ in terms] + [None, *plain_covers(tale)[:1]]
            for _ in range(20):
                many = source.choice([len(terms), len(terms), len(terms) + 1, 0])
                thing = tuple((source.choice(covers), source.choice(counts)) for _ in range(many))
                self.check(thing, plain_check(terms, thing), tale, a, b)


class ErrorTests(unittest.TestCase):
    def test_not_a_forest(self):
        tale = crown("abcde")
        for a, b in (("a", "b"), ("a", "a"), ("a", "e"), ("c", "a")):
            for call, more in ((share_terms, ()), (check_share_terms, (None,)), (check_share_terms, ((),))):
                with self.assertRaises(NotForest):
                    call(tale, a, b, *more)

    def test_too_large_before_not_a_forest(self):
        for tale in (crown(NAMES[:13]), chain("at", NAMES), crown(NAMES)):
            for call, more in ((share_terms, ()), (check_share_terms, (None,))):
                with self.assertRaises(TooLarge):
                    call(tale, NAMES[0], NAMES[1], *more)
        with self.assertRaises(NotForest):
            share_terms(crown(NAMES[:12]), NAMES[0], NAMES[1])

    def test_unknown_moments_before_too_large_and_not_a_forest(self):
        for tale in (LOW, crown("abcde"), crown(("a", "b", *NAMES[:11])), chain("at", ("a", "b", *NAMES[:59]))):
            for name in ("q", None, ["a"]):
                for call, more in ((share_terms, ()), (check_share_terms, (None,)), (check_share_terms, ((),))):
                    assert_raises(self, UnknownMoment, "name", name, call, tale, name, "z", *more)
                    assert_raises(self, UnknownMoment, "name", name, call, tale, "a", name, *more)

    def test_invalid_tale_comes_first(self):
        for tale, problem in BAD_TALES:
            assert_raises(self, InvalidTale, "problem", problem, share_terms, tale, "q", None)
            assert_raises(self, InvalidTale, "problem", problem, check_share_terms, tale, "q", None, None)


if __name__ == "__main__":
    unittest.main()
