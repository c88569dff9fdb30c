"""Points 2.9 and 6: first_timeline and check_timeline."""

import itertools
import random
import unittest

from backthen.errors import InvalidTale
from backthen.orders import check_timeline, first_timeline
from tests.helper import (
    ANYTHING, BAD_TALES, assert_raises, drawn_tales, plain_check_timeline, plain_groups, plain_timelines,
)

CHAIN = (("at", "a"), ("then", "b"), ("at", "c"), ("with", "d"))
GROUPS = (("a",), ("b",), ("c", "d"))


class FirstTimelineTests(unittest.TestCase):
    def test_example(self):
        self.assertEqual(first_timeline((("at", "b"), ("then", "a"), ("at", "c"))), (("b",), ("a",), ("c",)))

    def test_empty_tale(self):
        self.assertEqual(first_timeline(()), ())

    def test_a_group_that_waits_goes_as_early_as_it_can(self):
        tale = (("at", "c"), ("then", "a"), ("at", "b"), ("at", "d"))
        self.assertEqual(first_timeline(tale), (("b",), ("c",), ("a",), ("d",)))

    def test_least_of_all_timelines(self):
        for tale in drawn_tales(17, 120, 9, ("b", "a", "ab", "z", "aa", "c")):
            self.assertEqual(first_timeline(tale), plain_timelines(tale)[0], tale)


class CheckTimelineTests(unittest.TestCase):
    def check(self, tale, thing, problem):
        self.assertEqual(check_timeline(tale, thing), problem)

    def test_example(self):
        self.check((("at", "a"), ("then", "b")), (("b",), ("a",)), ("order", ("a",), ("b",)))

    def test_timelines(self):
        self.check((), (), None)
        self.check(CHAIN, GROUPS, None)
        self.check(CHAIN, (("c", "d"), ("a",), ("b",)), None)

    def test_no_tuple(self):
        for thing in ANYTHING:
            if not isinstance(thing, tuple):
                self.check(CHAIN, thing, ("form",))
        self.check(CHAIN, list(GROUPS), ("form",))
        self.check((), [], ("form",))

    def test_items_that_are_no_groups(self):
        others = (*ANYTHING, "a", ["a"], ("a", "b"), ("c",), ("d", "c"), ["c", "d"], ("c", "d", "d"), "cd", ("z",), 0, 1)
        for item in others:
            if item != ("a",):
                with self.subTest(item=item):
                    self.check(CHAIN, (item,), ("group", 0))
                    self.check(CHAIN, (*GROUPS, item), ("group", 3))
                    self.check(CHAIN, (("b",), item, ("a",)), ("group", 1))

    def test_groups_that_stand_twice(self):
        self.check(CHAIN, (("a",), ("a",)), ("group", 1))
        self.check(CHAIN, (*GROUPS, ("b",)), ("group", 3))
        self.check(CHAIN, (("b",), ("a",), ("b",), ("a",)), ("group", 2))

    def test_missing_groups(self):
        self.check(CHAIN, (), ("missing", ("a",)))
        self.check(CHAIN, (("a",),), ("missing", ("b",)))
        self.check(CHAIN, (("b",), ("a",)), ("missing", ("c", "d")))

    def test_the_least_cover_in_the_wrong_order(self):
        tale = (("at", "a"), ("then", "b"), ("then", "c"))
        self.check(tale, (("c",), ("b",), ("a",)), ("order", ("a",), ("b",)))
        self.check(tale, (("a",), ("c",), ("b",)), ("order", ("b",), ("c",)))
        self.check(tale, (("c",), ("a",), ("b",)), ("order", ("b",), ("c",)))

    def test_two_problems_at_once(self):
        self.check(CHAIN, [("b",), ("b",)], ("form",))
        self.check(CHAIN, (("b",), ("b",), None), ("group", 1))
        self.check(CHAIN, (("b",), ("a",), None), ("group", 2))
        self.check(CHAIN, (("b",), None), ("group", 1))
        self.check(CHAIN, (("c", "d"), ("b",)), ("missing", ("a",)))

    def test_all_orders_of_small_tales(self):
        for tale in drawn_tales(19, 40, 9, ("b", "a", "ab", "z", "aa")):
            timelines = set(plain_timelines(tale))
            for line in itertools.permutations(plain_groups(tale)):
                found = check_timeline(tale, line)
                self.assertEqual(found is None, line in timelines, (tale, line))
                self.assertEqual(found, plain_check_timeline(tale, line), (tale, line))

    def test_drawn_things(self):
        source = random.Random(23)
        for tale in drawn_tales(29, 60, 9):
            pool = plain_groups(tale) + [["a"], ("a", "zz"), "a", None]
            for _ in range(20):
                thing = source.choices(pool, k=source.randint(0, 3))
                thing = thing + source.sample(plain_groups(tale), len(plain_groups(tale)))
                thing = tuple(thing[source.randint(0, 2):])
                self.assertEqual(check_timeline(tale, thing), plain_check_timeline(tale, thing), (tale, thing))

    def test_invalid_tale_comes_first(self):
        for tale, problem in BAD_TALES:
            for thing in (None, (), (("a",),)):
                assert_raises(self, InvalidTale, "problem", problem, check_timeline, tale, thing)

    def test_thing_is_not_changed(self):
        thing = (["a"], [["b"], ()])
        self.check(CHAIN, thing, ("group", 0))
        self.assertEqual(thing, (["a"], [["b"], ()]))


if __name__ == "__main__":
    unittest.main()
