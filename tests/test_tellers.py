"""Point 13: check_tellers, join, conflict and check_ring."""

import random
import unittest

from backthen.errors import Conflict, InvalidTellers
from backthen.tales import check_tale
from backthen.tellers import check_ring, check_tellers, conflict, join
from tests.helper import (
    ANYTHING, BAD_TALES, BAD_TELLERS, TELLER_NAMES, WORDS, assert_raises, chain, drawn_tellers, joined, joined_names,
    plain_consistent, plain_links, plain_moments, plain_steps,
)

ANA = ("ana", (("at", "a"), ("then", "b")))
AGREED = (ANA, ("bo", (("at", "b"), ("then", "c"))))
TORN = (ANA, ("bo", (("at", "b"), ("then", "a"))))


def plain_check(thing):
    """What check_tellers must return, read off the document."""
    if not isinstance(thing, tuple) or not 1 <= len(thing) <= 6:
        return ("form",)
    for item in thing:
        if not isinstance(item, tuple) or len(item) != 2:
            return ("form",)
    for i, (name, _) in enumerate(thing):
        letters = isinstance(name, str) and 1 <= len(name) <= 8 and all("a" <= letter <= "z" for letter in name)
        if not letters or (i > 0 and not name > thing[i - 1][0]):
            return ("name", i)
    for i, (_, tale) in enumerate(thing):
        if check_tale(tale) is not None:
            return ("tale", i, check_tale(tale))
    return None


def plain_conflict(tellers):
    """What conflict must return, by listing all chains of 1, 2, 3 .. steps from every moment."""
    tale, names = joined(tellers), joined_names(tellers)
    if plain_consistent(tale):
        return None
    chains = [(start, start, ()) for start in plain_moments(tale)]
    while True:
        longer = []
        for start, end, steps in chains:
            for index, following in plain_steps(tale, end):
                longer.append((start, following, steps + (index,)))
        rings = [
            tuple(names[index] for index in steps) for start, end, steps in longer
            if start == end and any(tale[index][0] != "with" for index in steps)
        ]
        if rings:
            return min(rings)
        chains = longer


def plain_ring_from(tellers, thing, start):
    """The problem of a thing whose chain starts at that moment."""
    tale, names = joined(tellers), joined_names(tellers)
    moment, words = start, []
    for i, item in enumerate(thing):
        ends = {names[index]: end for index, end in plain_steps(tale, moment)}
        named = isinstance(item, tuple) and len(item) == 2 and isinstance(item[0], str) and type(item[1]) is int
        if not named or item not in ends:
            return ("step", i)
        moment = ends[item]
        words.append(tale[names.index(item)][0])
    if moment != start:
        return ("end",)
    return ("strict",) if set(words) <= {"with"} else None


def plain_check_ring(tellers, thing):
    """What check_ring must return, read off the document."""
    if not isinstance(thing, tuple) or not thing:
        return ("form",)
    names, links = joined_names(tellers), plain_links(joined(tellers))
    first = thing[0]
    if not isinstance(first, tuple) or len(first) != 2 or type(first[1]) is not int or first not in names:
        return ("step", 0)
    link = links[names.index(first)]
    if link is None:
        return ("step", 0)
    problem = plain_ring_from(tellers, thing, link[0])
    if problem is not None and not link[2] and plain_ring_from(tellers, thing, link[1]) is None:
        return None
    return problem


class CheckTests(unittest.TestCase):
    def check(self, thing, problem):
        with self.subTest(thing=thing):
            self.assertEqual(check_tellers(thing), problem)
            self.assertEqual(plain_check(thing), problem)

    def test_example(self):
        self.check((("bo", ()), ("ana", ())), ("name", 1))

    def test_tellers(self):
        self.check(AGREED, None)
        self.check(TORN, None)
        self.check((("ana", ()),), None)
        self.check(tuple((name, ()) for name in TELLER_NAMES), None)
        self.check((("a", ()), ("aa", ()), ("ab", ()), ("b", ()), ("zzzzzzzz", ())), None)

    def test_form(self):
        for thing in ANYTHING:
            self.check(thing, ("form",))
            is_pair = isinstance(thing, tuple) and len(thing) == 2
            self.check((ANA, thing), ("name", 1) if is_pair else ("form",))
        self.check((), ("form",))
        self.check(tuple((name, ()) for name in "abcdefg"), ("form",))
        self.check(tuple((name, ()) for name in "abcdef"), None)
        for thing in ([ANA], (list(ANA),), (ANA, ("bo",)), (ANA, ("bo", (), ())), ANA, "ana", (ANA, "bo")):
            self.check(thing, ("form",))

    def test_names(self):
        for name in (*ANYTHING, "Ana", "a b", "abcdefghi", "ana1", ("ana",), ["ana"]):
            self.check(((name, ()),), ("name", 0))
            self.check((ANA, (name, ())), ("name", 1))
        self.check((("abcdefgh", ()),), None)

    def test_names_ascend(self):
        self.check((ANA, ANA), ("name", 1))
        self.check((("ana", ()), ("bo", ()), ("bo", ())), ("name", 2))
        self.check((("ana", ()), ("cy", ()), ("bo", ())), ("name", 2))
        self.check((("b", ()), ("ab", ())), ("name", 1))
        self.check((("ab", ()), ("a", ())), ("name", 1))

    def test_tales(self):
        for tale, problem in BAD_TALES:
            self.check((("ana", tale),), ("tale", 0, problem))
            self.check((ANA, ("bo", tale)), ("tale", 1, problem))
            self.check((ANA, ("bo", tale), ("cy", None)), ("tale", 1, problem))

    def test_two_problems_at_once(self):
        self.check([("Bo", None)], ("form",))
        self.check((("Bo", None), ANA[:1]), ("form",))
        self.check((("ana", None), ("ana", None)), ("name", 1))
        self.check((("ana", None), (None, None)), ("name", 1))
        self.check((("ana", None), ("bo", 1)), ("tale", 0, ("form",)))

    def test_bad_tellers_of_the_other_tests(self):
        for tellers, problem in BAD_TELLERS:
            self.check(tellers, problem)


class JoinTests(unittest.TestCase):
    def test_example(self):
        self.assertEqual(join(AGREED), (("at", "a"), ("then", "b"), ("at", "b"), ("then", "c")))

    def test_empty_tales(self):
        self.assertEqual(join((("ana", ()),)), ())
        self.assertEqual(join((("ana", ()), ("bo", ANA[1]), ("cy", ()))), ANA[1])

    def test_one_teller(self):
        self.assertEqual(join((ANA,)), ANA[1])

    def test_a_conflict(self):
        assert_raises(self, Conflict, "ring", (("ana", 1), ("bo", 1)), join, TORN)

    def test_drawn_tellers(self):
        conflicts = 0
        for tellers in drawn_tellers(401, 150, 8):
            if plain_consistent(joined(tellers)):
                self.assertEqual(join(tellers), joined(tellers))
                self.assertIsNone(check_tale(join(tellers)))
            else:
                conflicts += 1
                assert_raises(self, Conflict, "ring", conflict(tellers), join, tellers)
        self.assertGreater(conflicts, 20)


class ConflictTests(unittest.TestCase):
    def find(self, tellers, ring):
        with self.subTest(tellers=tellers):
            self.assertEqual(conflict(tellers), ring)
            self.assertEqual(plain_conflict(tellers), ring)

    def test_example(self):
        self.find(TORN, (("ana", 1), ("bo", 1)))

    def test_no_conflict(self):
        for tellers in (AGREED, (ANA,), (("ana", ()),), (ANA, ("bo", ANA[1])), (ANA, ("bo", (("at", "c"), ("with", "a"))))):
            self.find(tellers, None)

    def test_with_sentences_in_both_directions(self):
        same = (("at", "b"), ("with", "a"))
        self.find((ANA, ("bo", same)), (("ana", 1), ("bo", 1)))
        self.find((("ana", same), ("bo", ANA[1])), (("ana", 1), ("bo", 1)))
        self.find((ANA, ("bo", (("at", "a"), ("with", "c"))), ("cy", (("at", "c"), ("with", "b")))), (("ana", 1), ("cy", 1), ("bo", 1)))

    def test_the_shortest_ring(self):
        long = (("at", "b"), ("then", "c"), ("then", "d"), ("then", "a"))
        self.find((ANA, ("bo", long)), (("ana", 1), ("bo", 1), ("bo", 2), ("bo", 3)))
        self.find((ANA, ("bo", long), ("cy", (("at", "c"), ("then", "a")))), (("ana", 1), ("bo", 1), ("cy", 1)))
        self.find((("ana", long), ("bo", ANA[1]), ("cy", (("at", "d"), ("earlier", "a")))), (("ana", 3), ("cy", 1)))

    def test_the_least_of_the_shortest_rings(self):
        tellers = (("ana", (("at", "z"), ("then", "a"), ("then", "b"))), ("bo", (("at", "b"), ("then", "a"), ("then", "c"))))
        self.find(tellers + (("cy", (("at", "b"), ("then", "a"))),), (("ana", 2), ("bo", 1)))
        # The same ring may start at another step; names come before indices.
        self.find(
            (("ana", (("at", "q"), ("then", "r"), ("at", "c"), ("then", "a"))), ("b", (("at", "a"), ("later", "c")))),
            (("ana", 3), ("b", 1)),
        )
        self.find((("ana", chain("then", "xyzb") + (("then", "a"),)), ("bo", ANA[1])), (("ana", 4), ("bo", 1)))

    def test_indices_are_compared_as_numbers(self):
        told = (("at", "a"),) * 10 + (("later", "b"),) + (("later", "b"),)
        self.find((("ana", told), ("bo", (("at", "b"), ("then", "a")))), (("ana", 10), ("bo", 1)))
        early = (("at", "a"),) * 2 + (("later", "b"),) + (("at", "c"),) * 7 + (("at", "a"), ("later", "b"))
        self.find((("ana", early), ("bo", (("at", "b"), ("then", "a")))), (("ana", 2), ("bo", 1)))

    def test_all_words(self):
        for word in WORDS[1:]:
            for other in WORDS[1:]:
                tellers = (("ana", (("at", "a"), (word, "b"))), ("bo", (("at", "a"), (other, "b"))))
                forward = {"then": 1, "later": 1, "with": 0}
                torn = forward.get(word, -1) != forward.get(other, -1)
                self.find(tellers, (("ana", 1), ("bo", 1)) if torn else None)

    def test_drawn_tellers_against_all_rings(self):
        lengths = set()
        names = ("b", "a", "ab", "z", "c", "d")
        for tellers in drawn_tellers(403, 150, 6, names) + drawn_tellers(404, 100, 5, names[:4]):
            ring = plain_conflict(tellers)
            self.assertEqual(conflict(tellers), ring, tellers)
            if ring is not None:
                lengths.add(len(ring))
                self.assertIsNone(check_ring(tellers, ring))
        self.assertLessEqual({2, 3, 4}, lengths)

    def test_kinds(self):
        ring = conflict(TORN)
        self.assertEqual((type(ring), {type(step) for step in ring}), (tuple, {tuple}))
        self.assertEqual({(type(name), type(index)) for name, index in ring}, {(str, int)})


class RingTests(unittest.TestCase):
    def check(self, tellers, thing, problem):
        with self.subTest(tellers=tellers, thing=thing):
            self.assertEqual(check_ring(tellers, thing), problem)
            self.assertEqual(plain_check_ring(tellers, thing), problem)

    def test_example(self):
        self.check(TORN, (("bo", 1), ("ana", 1)), None)

    def test_form(self):
        for thing in ANYTHING:
            if not isinstance(thing, tuple) or thing == ():
                self.check(TORN, thing, ("form",))
        self.check(TORN, [("ana", 1), ("bo", 1)], ("form",))

    def test_steps_that_name_no_sentence(self):
        for item in (
            *ANYTHING, ("ana",), ("ana", 1, 1), ["ana", 1], ("cy", 1), ("ana", True), ("ana", -1), ("ana", 2), ("ana", "1"),
            ("ana", None), (None, 1), (["ana"], 1), ("ana", [1]), (1, "ana"), ("ana", 500), ("", 1), ("an", 1),
        ):
            self.check(TORN, (item,), ("step", 0))
            self.check(TORN, (item, ("bo", 1)), ("step", 0))
            self.check(TORN, (("ana", 1), item), ("step", 1))
            self.check(TORN, (("ana", 1), ("bo", 1), item), ("step", 2))

    def test_sentences_without_a_relation(self):
        self.check(TORN, (("ana", 0),), ("step", 0))
        self.check(TORN, (("ana", 0), ("bo", 1)), ("step", 0))
        self.check(TORN, (("ana", 1), ("bo", 0)), ("step", 1))
        self.check(TORN, (("ana", 1), ("bo", False)), ("step", 1))

    def test_steps_that_may_not_be_taken(self):
        self.check(TORN, (("ana", 1), ("ana", 1)), ("step", 1))
        self.check(AGREED, (("bo", 1), ("ana", 1)), ("step", 1))
        self.check(AGREED, (("ana", 1), ("bo", 1), ("ana", 1)), ("step", 2))

    def test_end(self):
        self.check(TORN, (("ana", 1),), ("end",))
        self.check(AGREED, (("ana", 1), ("bo", 1)), ("end",))
        self.check(TORN, (("bo", 1), ("ana", 1), ("bo", 1)), ("end",))

    def test_strict(self):
        same = (("ana", (("at", "a"), ("with", "b"), ("with", "a"))),)
        self.check(same, (("ana", 1), ("ana", 1)), ("strict",))
        self.check(same, (("ana", 2),), ("strict",))
        self.check(same, (("ana", 1),), ("end",))

    def test_rings_of_any_length_that_start_anywhere(self):
        one, other = ("ana", 1), ("bo", 1)
        for thing in ((one, other), (other, one), (one, other) * 2, (other, one) * 250):
            self.check(TORN, thing, None)
        three = (ANA, ("bo", (("at", "b"), ("then", "c"), ("then", "a"))))
        ring = (("ana", 1), ("bo", 1), ("bo", 2))
        for k in range(3):
            self.check(three, ring[k:] + ring[:k], None)

    def test_first_steps_by_with_sentences(self):
        # From the stand b the ring goes on at a, from the moment a it goes on at b.
        tellers = (ANA, ("bo", (("at", "b"), ("with", "a"))))
        self.check(tellers, (("bo", 1), ("ana", 1)), None)
        self.check(tellers, (("ana", 1), ("bo", 1)), None)
        turned = (ANA, ("bo", (("at", "a"), ("with", "b"))))
        self.check(turned, (("bo", 1), ("ana", 1)), None)
        self.check(turned, (("bo", 1), ("ana", 1), ("bo", 1), ("ana", 1)), None)

    def test_the_problem_is_that_of_the_stand(self):
        tellers = (ANA, ("bo", (("at", "b"), ("with", "a"), ("with", "c"))))
        # From the stand b: to a, and on to b; then nothing leads on by "ana". From a: to b, where "ana" may not be taken.
        self.check(tellers, (("bo", 1), ("ana", 1), ("ana", 1)), ("step", 2))
        turned = (ANA, ("bo", (("at", "a"), ("with", "b"), ("with", "c"))))
        self.check(turned, (("bo", 1), ("ana", 1), ("ana", 1)), ("step", 1))
        self.check(turned, (("bo", 1), ("ana", 1), ("bo", 2)), ("step", 1))
        self.check(tellers, (("bo", 1),), ("end",))

    def test_two_problems_at_once(self):
        self.check(TORN, [None], ("form",))
        self.check(TORN, (("ana", 1), None, None), ("step", 1))
        self.check(TORN, (("ana", 0), None), ("step", 0))
        same = (("ana", (("at", "a"), ("with", "b"))),)
        self.check(same, (("ana", 1),), ("end",))

    def test_consistent_tellers_have_no_ring(self):
        source = random.Random(407)
        for tellers in drawn_tellers(408, 80, 6):
            names = joined_names(tellers)
            if names and plain_consistent(joined(tellers)):
                for _ in range(20):
                    thing = tuple(source.choice(names) for _ in range(source.randint(1, 4)))
                    self.assertIsNotNone(check_ring(tellers, thing))

    def test_drawn_things(self):
        source = random.Random(409)
        found = {}
        for tellers in drawn_tellers(410, 200, 5, ("a", "b", "c")):
            names = joined_names(tellers) or [None]
            for _ in range(30):
                thing = tuple(source.choice(names) for _ in range(source.randint(1, 4)))
                problem = plain_check_ring(tellers, thing)
                self.assertEqual(check_ring(tellers, thing), problem, (tellers, thing))
                kind = problem and problem[0]
                found[kind] = found.get(kind, 0) + 1
        self.assertEqual(set(found), {None, "step", "end", "strict"})
        self.assertGreater(min(found.values()), 15)


class ErrorTests(unittest.TestCase):
    def test_invalid_tellers(self):
        for tellers, problem in BAD_TELLERS:
            for call, more in ((join, ()), (conflict, ()), (check_ring, (None,)), (check_ring, ((("ana", 1),),))):
                assert_raises(self, InvalidTellers, "problem", problem, call, tellers, *more)

    def test_anything(self):
        for thing in ANYTHING:
            for call, more in ((join, ()), (conflict, ()), (check_ring, (None,))):
                assert_raises(self, InvalidTellers, "problem", ("form",), call, thing, *more)


if __name__ == "__main__":
    unittest.main()
