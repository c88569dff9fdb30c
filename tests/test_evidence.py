"""Point 7: explain_relation and check_explanation."""

import itertools
import random
import unittest

from backthen.errors import InvalidTale, UnknownMoment
from backthen.evidence import check_explanation, explain_relation
from backthen.orders import relation
from tests.helper import (
    ANYTHING, BAD_TALES, all_tales, assert_raises, drawn_tales, plain_check_timeline, plain_consistent,
    plain_group, plain_links, plain_moments, plain_relation, plain_steps, plain_timelines,
)

TALE = (("at", "a"), ("then", "b"), ("with", "c"), ("then", "d"))
LOOSE = (("at", "a"), ("then", "b"), ("at", "c"))
UNKNOWN = ("unknown", (("a",), ("b",), ("c",)), (("a",), ("c",), ("b",)))


def plain_chain(tale, start, goal, words):
    """The least of the shortest chains of those words, by listing all chains of length 0, 1, 2 .."""
    chains = [((), start)]
    while True:
        found = [steps for steps, end in chains if end == goal]
        if found:
            return min(found)
        chains = [
            (steps + (index,), following) for steps, end in chains
            for index, following in plain_steps(tale, end) if tale[index][0] in words
        ]


def plain_explain(tale, a, b):
    """What explain_relation must return."""
    word = plain_relation(tale, a, b)
    if word == "same":
        return (word, plain_chain(tale, a, b, ("with",)))
    if word != "unknown":
        start, goal = (a, b) if word == "before" else (b, a)
        return (word, plain_chain(tale, start, goal, ("then", "back", "later", "earlier", "with")))
    one, other = plain_group(tale, a), plain_group(tale, b)
    lines = plain_timelines(tale)
    first = min(line for line in lines if line.index(one) < line.index(other))
    second = min(line for line in lines if line.index(other) < line.index(one))
    return (word, first, second)


def plain_check_chain(tale, start, goal, kind, steps):
    moment, words = start, []
    for i, step in enumerate(steps):
        ends = dict(plain_steps(tale, moment))
        if type(step) is not int or step not in ends or (kind == "same" and tale[step][0] != "with"):
            return ("step", i)
        moment = ends[step]
        words.append(tale[step][0])
    if moment != goal:
        return ("end",)
    if kind != "same" and set(words) <= {"with"}:
        return ("strict",)
    return None


def plain_check(tale, a, b, thing):
    """What check_explanation must return, read off the document line by line."""
    if isinstance(thing, tuple) and len(thing) == 3 and thing[0] == "unknown":
        for i in (0, 1):
            problem = plain_check_timeline(tale, thing[i + 1])
            if problem is not None:
                return ("timeline", i, problem)
        one, other = plain_group(tale, a), plain_group(tale, b)
        for i, (early, late) in enumerate([(one, other), (other, one)]):
            if not thing[i + 1].index(early) < thing[i + 1].index(late):
                return ("side", i)
        return None
    if not isinstance(thing, tuple) or len(thing) != 2 or not isinstance(thing[1], tuple):
        return ("form",)
    if thing[0] == "after":
        return plain_check_chain(tale, b, a, *thing)
    if thing[0] in ("before", "same"):
        return plain_check_chain(tale, a, b, *thing)
    return ("form",)


class ExplainTests(unittest.TestCase):
    def test_examples(self):
        self.assertEqual(explain_relation(TALE, "a", "d"), ("before", (1, 3)))
        self.assertEqual(explain_relation(TALE, "c", "d"), ("before", (2, 3)))
        self.assertEqual(explain_relation(LOOSE, "b", "c"), UNKNOWN)

    def test_the_four_forms(self):
        self.assertEqual(explain_relation(TALE, "d", "a"), ("after", (1, 3)))
        self.assertEqual(explain_relation(TALE, "d", "c"), ("after", (2, 3)))
        self.assertEqual(explain_relation(TALE, "b", "c"), ("same", (2,)))
        self.assertEqual(explain_relation(TALE, "c", "b"), ("same", (2,)))
        self.assertEqual(explain_relation(TALE, "c", "c"), ("same", ()))
        self.assertEqual(explain_relation(LOOSE, "c", "b"), ("unknown", UNKNOWN[2], UNKNOWN[1]))

    def test_kinds(self):
        for found in (explain_relation(TALE, "a", "d"), explain_relation(TALE, "b", "c")):
            self.assertEqual((type(found), type(found[1])), (tuple, tuple))
            self.assertEqual({type(step) for step in found[1]}, {int})
        self.assertEqual({type(item) for item in explain_relation(LOOSE, "b", "c")[1]}, {tuple})

    def test_chains_through_with_in_both_directions(self):
        tale = (("at", "b"), ("with", "a"), ("with", "c"), ("at", "d"), ("with", "c"), ("then", "e"))
        self.assertEqual(explain_relation(tale, "a", "e"), ("before", (1, 2, 4, 5)))
        self.assertEqual(explain_relation(tale, "a", "d"), ("same", (1, 2, 4)))
        self.assertEqual(explain_relation(tale, "d", "a"), ("same", (4, 2, 1)))

    def test_each_word_gives_one_step(self):
        for word, found in (("then", "before"), ("later", "before"), ("back", "after"), ("earlier", "after")):
            tale = (("at", "a"), (word, "b"))
            other = {"before": "after", "after": "before"}[found]
            self.assertEqual(explain_relation(tale, "a", "b"), (found, (1,)))
            self.assertEqual(explain_relation(tale, "b", "a"), (other, (1,)))

    def test_the_shortest_chain_wins_over_a_lesser_one(self):
        tale = (("at", "a"), ("then", "b"), ("then", "c"), ("then", "d"), ("at", "d"), ("earlier", "a"))
        self.assertEqual(explain_relation(tale, "a", "d"), ("before", (5,)))

    def test_the_least_of_the_shortest_chains(self):
        tale = (("at", "c"), ("then", "d"), ("at", "a"), ("then", "b"), ("then", "d"), ("at", "a"), ("then", "c"))
        self.assertEqual(explain_relation(tale, "a", "d"), ("before", (3, 4)))
        twice = (("at", "a"), ("later", "b"), ("later", "b"), ("earlier", "z"), ("at", "z"), ("later", "a"))
        self.assertEqual(explain_relation(twice, "z", "b"), ("before", (3, 1)))

    def test_a_step_from_a_moment_to_itself_is_on_no_shortest_chain(self):
        tale = (("at", "a"), ("with", "a"), ("then", "b"), ("with", "b"))
        self.assertEqual(explain_relation(tale, "a", "b"), ("before", (2,)))
        self.assertEqual(explain_relation(tale, "a", "a"), ("same", ()))

    def test_drawn_tales_against_all_chains_and_timelines(self):
        names = ("b", "a", "ab", "z", "aa", "c")
        for tale in drawn_tales(31, 150, 9, names) + drawn_tales(32, 60, 12, names[:4]):
            for a, b in itertools.product(plain_moments(tale), repeat=2):
                with self.subTest(tale=tale, a=a, b=b):
                    found = explain_relation(tale, a, b)
                    self.assertEqual(found, plain_explain(tale, a, b))
                    self.assertEqual(found[0], relation(tale, a, b))
                    self.assertIsNone(check_explanation(tale, a, b, found))

    def test_all_short_tales(self):
        for tale in all_tales(3, ("a", "b", "c")):
            if plain_consistent(tale):
                for a, b in itertools.product(plain_moments(tale), repeat=2):
                    self.assertEqual(explain_relation(tale, a, b), plain_explain(tale, a, b), (tale, a, b))


class CheckTests(unittest.TestCase):
    def check(self, a, b, thing, problem, tale=TALE):
        with self.subTest(a=a, b=b, thing=thing):
            self.assertEqual(check_explanation(tale, a, b, thing), problem)

    def test_example(self):
        self.check("a", "d", ("before", (1, 2)), ("end",))

    def test_form(self):
        for thing in (
            *ANYTHING, ["before", (1, 3)], ("before", [1, 3]), ("before",), ("before", (1, 3), ()), ("before", 1),
            ("Before", (1, 3)), ("unknown", (1, 3)), ("unknown",), (("before",), (1, 3)), (["before"], (1, 3)),
            ("after", None), ("same", "23"), ("same", {}), (None, (1, 3)), ("", ()), (1, (1, 3)),
            ("before", (), (), ()), ["unknown", (), ()], ("same", (), ()), ("Unknown", (), ()), ("unknown", (), (), ()),
        ):
            self.check("a", "d", thing, ("form",))

    def test_steps_that_are_no_indices_of_relations(self):
        for step in (*ANYTHING, -1, -3, 4, 200, "1", (1,)):
            if step != 1 or step is True:
                self.check("a", "d", ("before", (step, 3)), ("step", 0))
                self.check("a", "d", ("before", (1, step)), ("step", 1))
        self.check("a", "b", ("before", (True,)), ("step", 0))
        self.check("a", "b", ("before", (-3,)), ("step", 0))
        self.check("a", "a", ("same", (0,)), ("step", 0))
        self.check("a", "c", ("before", (1, 2, False)), ("step", 2))

    def test_steps_that_may_not_be_taken(self):
        self.check("a", "d", ("before", (3,)), ("step", 0))
        self.check("b", "a", ("before", (1,)), ("step", 0))
        self.check("b", "a", ("same", (1,)), ("step", 0))
        self.check("a", "b", ("same", (1,)), ("step", 0))
        self.check("a", "b", ("after", (1,)), ("step", 0))
        self.check("c", "d", ("before", (3,)), ("step", 0))
        self.check("a", "d", ("before", (1, 2, 3)), ("step", 2))
        self.check("a", "d", ("before", (1, 1, 3)), ("step", 1))

    def test_steps_of_each_word(self):
        for word in ("back", "earlier"):
            tale = (("at", "b"), (word, "a"))
            self.check("a", "b", ("before", (1,)), None, tale)
            self.check("b", "a", ("before", (1,)), ("step", 0), tale)
        for word in ("then", "later"):
            tale = (("at", "b"), (word, "a"))
            self.check("b", "a", ("before", (1,)), None, tale)
            self.check("a", "b", ("before", (1,)), ("step", 0), tale)

    def test_end(self):
        self.check("a", "d", ("before", ()), ("end",))
        self.check("a", "d", ("before", (1,)), ("end",))
        self.check("b", "c", ("same", ()), ("end",))
        self.check("d", "a", ("after", (1, 2)), ("end",))
        self.check("a", "b", ("before", (1, 3)), ("end",))
        self.check("b", "c", ("same", (2, 2)), ("end",))

    def test_strict(self):
        self.check("a", "a", ("before", ()), ("strict",))
        self.check("a", "a", ("after", ()), ("strict",))
        self.check("b", "c", ("before", (2,)), ("strict",))
        self.check("c", "b", ("after", (2,)), ("strict",))
        self.check("b", "b", ("before", (2, 2)), ("strict",))

    def test_longer_chains(self):
        self.check("a", "d", ("before", (1, 2, 2, 3)), None)
        self.check("c", "d", ("before", (2, 2, 2, 3)), None)
        self.check("d", "a", ("after", (1, 2, 2, 2, 2, 3)), None)
        self.check("b", "b", ("same", (2, 2)), None)
        self.check("c", "b", ("same", (2, 2, 2)), None)
        self.check("b", "c", ("same", (2,) * 499), None)
        self.check("b", "c", ("same", (2,) * 500), ("end",))
        detour = TALE + (("at", "a"), ("then", "d"))
        self.check("a", "d", ("before", (1, 3)), None, detour)
        self.check("a", "d", ("before", (5,)), None, detour)

    def test_a_step_from_a_moment_to_itself(self):
        tale = (("at", "a"), ("with", "a"), ("then", "b"))
        self.check("a", "a", ("same", (1,)), None, tale)
        self.check("a", "a", ("same", (1, 1)), None, tale)
        self.check("a", "b", ("before", (1, 2)), None, tale)
        self.check("a", "b", ("before", (1, 2, 1)), ("step", 2), tale)
        self.check("a", "a", ("before", (1,)), ("strict",), tale)

    def test_timelines(self):
        first, second = UNKNOWN[1:]
        self.check("b", "c", ("unknown", (("a",), ("b",), ("c",)), (("c",), ("a",), ("b",))), None, LOOSE)
        self.check("a", "c", ("unknown", first, (("c",), ("a",), ("b",))), None, LOOSE)
        self.check("b", "c", ("unknown", None, second), ("timeline", 0, ("form",)), LOOSE)
        self.check("b", "c", ("unknown", first, list(second)), ("timeline", 1, ("form",)), LOOSE)
        self.check("b", "c", ("unknown", first[:1], second), ("timeline", 0, ("missing", ("b",))), LOOSE)
        self.check("b", "c", ("unknown", first, (["a"],)), ("timeline", 1, ("group", 0)), LOOSE)
        wrong = (("b",), ("a",), ("c",))
        self.check("b", "c", ("unknown", wrong, second), ("timeline", 0, ("order", ("a",), ("b",))), LOOSE)
        self.check("b", "c", ("unknown", first, wrong), ("timeline", 1, ("order", ("a",), ("b",))), LOOSE)

    def test_sides(self):
        first, second = UNKNOWN[1:]
        self.check("b", "c", ("unknown", second, first), ("side", 0), LOOSE)
        self.check("b", "c", ("unknown", second, second), ("side", 0), LOOSE)
        self.check("b", "c", ("unknown", first, first), ("side", 1), LOOSE)
        self.check("a", "b", ("unknown", first, second), ("side", 1), LOOSE)
        self.check("b", "a", ("unknown", first, second), ("side", 0), LOOSE)
        self.check("b", "b", ("unknown", first, second), ("side", 0), LOOSE)
        line = (("a",), ("b", "c"), ("d",))
        self.check("b", "c", ("unknown", line, line), ("side", 0))

    def test_two_problems_at_once(self):
        first, second = UNKNOWN[1:]
        self.check("a", "d", ["before", (9,)], ("form",))
        self.check("a", "d", ("before", (1, 9)), ("step", 1))
        self.check("a", "d", ("before", (9, None)), ("step", 0))
        self.check("b", "a", ("before", (2,)), ("end",))
        self.check("a", "b", ("before", ()), ("end",))
        self.check("b", "c", ("unknown", (), ()), ("timeline", 0, ("missing", ("a",))), LOOSE)
        self.check("b", "c", ("unknown", second, None), ("timeline", 1, ("form",)), LOOSE)
        self.check("b", "c", ("unknown", None, first), ("timeline", 0, ("form",)), LOOSE)

    def test_drawn_chains(self):
        source = random.Random(37)
        accepted = 0
        for tale in drawn_tales(33, 150, 10, ("b", "a", "ab", "z")):
            for a, b in itertools.product(plain_moments(tale), repeat=2):
                pool = [index for index, link in enumerate(plain_links(tale)) if link is not None] + [0, -1, True, None]
                for kind in ("before", "after", "same"):
                    thing = (kind, tuple(source.choice(pool) for _ in range(source.randint(0, 3))))
                    found = plain_check(tale, a, b, thing)
                    self.assertEqual(check_explanation(tale, a, b, thing), found, (tale, a, b, thing))
                    accepted += found is None
        self.assertGreater(accepted, 100)

    def test_drawn_timelines(self):
        source = random.Random(41)
        accepted = 0
        for tale in drawn_tales(34, 80, 8, ("b", "a", "ab", "z")):
            lines = plain_timelines(tale)
            for a, b in itertools.product(plain_moments(tale), repeat=2):
                shuffled = source.sample(lines[0], len(lines[0]))
                things = [tuple(shuffled), source.choice(lines), source.choice(lines), lines[0][:-1]]
                for thing in itertools.product(["unknown"], things, things):
                    found = plain_check(tale, a, b, thing)
                    self.assertEqual(check_explanation(tale, a, b, thing), found, (tale, a, b, thing))
                    accepted += found is None
        self.assertGreater(accepted, 50)

    def test_an_explanation_of_another_relation_is_no_evidence(self):
        for tale in drawn_tales(35, 60, 9, ("b", "a", "ab", "z")):
            for a, b, c, d in itertools.product(plain_moments(tale), repeat=4):
                thing = explain_relation(tale, c, d)
                if plain_relation(tale, a, b) != thing[0]:
                    self.assertIsNotNone(check_explanation(tale, a, b, thing), (tale, a, b, thing))


class ErrorTests(unittest.TestCase):
    def test_unknown_moments(self):
        for thing in (*ANYTHING, "z", ("at", "a")):
            for given in ((thing, "a"), ("a", thing), (thing, thing), (thing, "q")):
                assert_raises(self, UnknownMoment, "name", thing, explain_relation, TALE, *given)
                assert_raises(self, UnknownMoment, "name", thing, check_explanation, TALE, *given, None)
                assert_raises(self, UnknownMoment, "name", thing, check_explanation, TALE, *given, ("same", ()))

    def test_invalid_tale_before_unknown_moments(self):
        for tale, problem in BAD_TALES:
            assert_raises(self, InvalidTale, "problem", problem, explain_relation, tale, "q", None)
            assert_raises(self, InvalidTale, "problem", problem, check_explanation, tale, "q", None, 0)

    def test_things_are_not_changed(self):
        steps = [1, 3]
        self.assertEqual(check_explanation(TALE, "a", "d", ("before", (1, steps))), ("step", 1))
        self.assertEqual(steps, [1, 3])


if __name__ == "__main__":
    unittest.main()
