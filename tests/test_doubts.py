"""Point 13: suspects, dismissed and backers."""

import itertools
import unittest

from backthen.errors import InvalidTellers, NoConflict, UnknownMoment
from backthen.tellers import backers, conflict, dismissed, suspects
from tests.helper import (
    ANYTHING, BAD_TELLERS, assert_plain, assert_raises, chain, drawn_tellers, joined, joined_names, plain_consistent,
    plain_moments, plain_relation,
)

ANA = ("ana", (("at", "a"), ("then", "b")))
AGREED = (ANA, ("bo", (("at", "b"), ("then", "c"))))
TORN = (ANA, ("bo", (("at", "b"), ("then", "a"))))
SMALL = ("b", "a", "ab", "z", "c")


def plain_dropped(tale, k):
    """The tale without the relation of sentence k: its movement is kept."""
    word, moment = tale[k]
    return tale[:k] + ((("at", moment),) if word in ("at", "then", "back") else ()) + tale[k + 1:]


def plain_suspects(tellers):
    tale = joined(tellers)
    return [name for k, name in enumerate(joined_names(tellers)) if plain_consistent(plain_dropped(tale, k))]


def plain_sets(tellers):
    """All sets of tellers: fewer names first, then as tuples of names."""
    for many in range(len(tellers) + 1):
        yield from sorted(itertools.combinations(tellers, many))


def plain_dismissed(tellers):
    found = []
    for kept in plain_sets(tellers):
        if plain_consistent(joined(kept)):
            found.append(tuple(name for name, _ in tellers if name not in dict(kept)))
    return min(found, key=lambda names: (len(names), names))


def plain_backers(tellers, a, b):
    for kept in plain_sets(tellers):
        tale = joined(kept)
        if {a, b} <= set(plain_moments(tale)) and plain_consistent(tale) and plain_relation(tale, a, b) == "before":
            return tuple(name for name, _ in kept)
    return None


class SuspectTests(unittest.TestCase):
    def find(self, tellers, found):
        with self.subTest(tellers=tellers):
            self.assertEqual(suspects(tellers), found)
            self.assertEqual(plain_suspects(tellers), found)

    def test_example(self):
        self.find(TORN, [("ana", 1), ("bo", 1)])

    def test_two_rings_without_a_common_sentence(self):
        self.find(TORN + (("cy", (("at", "x"), ("then", "y"))), ("dee", (("at", "y"), ("then", "x")))), [])

    def test_two_rings_with_a_common_sentence(self):
        self.find(TORN + (("cy", (("at", "b"), ("then", "a"))),), [("ana", 1)])
        self.find((ANA, ("bo", (("at", "a"), ("then", "b"))), ("cy", (("at", "b"), ("then", "a")))), [("cy", 1)])

    def test_the_movement_is_kept(self):
        # If "then b" did not move any longer, "then c" would say that a is before c.
        other = (("at", "b"), ("then", "a"), ("at", "c"), ("then", "a"))
        self.find((("ana", chain("then", "abc")), ("bo", other)), [("ana", 1)])
        other = (("at", "b"), ("back", "a"), ("at", "c"), ("back", "a"))
        self.find((("ana", chain("back", "abc")), ("bo", other)), [("ana", 1)])

    def test_sentences_that_do_not_move(self):
        for word in ("later", "with", "then"):
            tellers = (("ana", (("at", "a"), (word, "b"), ("later", "c"))), ("bo", (("at", "b"), ("then", "a"))))
            self.find(tellers, [("ana", 1), ("bo", 1)])
        tellers = (("ana", (("at", "b"), ("earlier", "a"), ("with", "c"))), ("bo", (("at", "c"), ("then", "a"))))
        self.find(tellers, [("ana", 1), ("ana", 2), ("bo", 1)])

    def test_ascending(self):
        told = (("at", "m"),) * 9 + chain("then", "abc") + chain("at", "mm")
        self.find((("ana", told), ("bo", (("at", "c"), ("then", "a")))), [("ana", 10), ("ana", 11), ("bo", 1)])

    def test_no_conflict(self):
        for tellers in (AGREED, (ANA,), (("ana", ()),)):
            assert_plain(self, NoConflict, suspects, tellers)

    def test_drawn_tellers_against_all_sentences(self):
        found = {}
        for tellers in drawn_tellers(421, 200, 8) + drawn_tellers(422, 100, 5, SMALL[:3]):
            if plain_consistent(joined(tellers)):
                assert_plain(self, NoConflict, suspects, tellers)
                continue
            self.assertEqual(suspects(tellers), plain_suspects(tellers), tellers)
            self.assertLessEqual({name for name, _ in suspects(tellers)}, set(dict(conflict(tellers))))
            found[len(suspects(tellers))] = found.get(len(suspects(tellers)), 0) + 1
        self.assertLessEqual({0, 1, 2, 3}, set(found))

    def test_a_list_that_is_changed_has_no_effect(self):
        found = suspects(TORN)
        self.assertEqual((type(found), type(found[0])), (list, tuple))
        found.clear()
        self.find(TORN, [("ana", 1), ("bo", 1)])


class DismissedTests(unittest.TestCase):
    def find(self, tellers, names):
        with self.subTest(tellers=tellers):
            self.assertEqual(dismissed(tellers), names)
            self.assertEqual(plain_dismissed(tellers), names)

    def test_example(self):
        self.find(TORN, ("ana",))

    def test_nobody(self):
        for tellers in (AGREED, (ANA,), (("ana", ()),), (("ana", ()), ("bo", ()))):
            self.find(tellers, ())

    def test_the_fewest(self):
        against = (("at", "b"), ("then", "a"))
        self.find((ANA, ("bo", ANA[1]), ("cy", against)), ("cy",))
        self.find((ANA, ("bo", against), ("cy", against)), ("ana",))
        self.find((ANA, ("bo", against), ("cy", ANA[1]), ("dee", against)), ("ana", "cy"))
        self.find((ANA, ("bo", against), ("cy", against), ("dee", ANA[1]), ("ed", ANA[1])), ("bo", "cy"))

    def test_all_but_one(self):
        torn = (("ana", chain("then", "abc")), ("bo", chain("then", "cab")), ("cy", chain("then", "cba")))
        self.find(torn, ("ana", "bo"))

    def test_the_least_of_the_fewest(self):
        two = TORN + (("cy", (("at", "x"), ("then", "y"))), ("dee", (("at", "y"), ("then", "x"))))
        self.find(two, ("ana", "cy"))

    def test_only_together(self):
        three = (ANA, ("bo", (("at", "b"), ("then", "c"))), ("cy", (("at", "c"), ("then", "a"))))
        self.find(three, ("ana",))
        self.assertEqual(dismissed(three[1:]), ())

    def test_drawn_tellers_against_all_sets(self):
        many = set()
        for tellers in drawn_tellers(425, 150, 8) + drawn_tellers(426, 100, 6, SMALL[:3]):
            names = plain_dismissed(tellers)
            self.assertEqual(dismissed(tellers), names, tellers)
            many.add(len(names))
        self.assertLessEqual({0, 1, 2}, many)

    def test_kinds(self):
        self.assertEqual((type(dismissed(TORN)), type(dismissed(AGREED))), (tuple, tuple))


class BackerTests(unittest.TestCase):
    def find(self, tellers, a, b, names):
        with self.subTest(tellers=tellers, a=a, b=b):
            self.assertEqual(backers(tellers, a, b), names)
            self.assertEqual(plain_backers(tellers, a, b), names)

    def test_example(self):
        self.find(AGREED, "a", "c", ("ana", "bo"))

    def test_one_teller(self):
        self.find(AGREED, "a", "b", ("ana",))
        self.find(AGREED, "b", "c", ("bo",))

    def test_nobody(self):
        self.find(AGREED, "c", "a", None)
        self.find(AGREED, "b", "a", None)
        self.find(AGREED, "a", "a", None)
        self.find((("ana", (("at", "a"), ("with", "b"))),), "a", "b", None)
        self.find((("ana", (("at", "a"), ("at", "b"))),), "a", "b", None)

    def test_the_fewest_names(self):
        tellers = AGREED + (("cy", (("at", "a"), ("then", "c"))),)
        self.find(tellers, "a", "c", ("cy",))

    def test_the_least_of_the_fewest(self):
        tellers = (("ana", (("at", "q"),)), ("bo", ANA[1]), ("cy", ANA[1]))
        self.find(tellers, "a", "b", ("bo",))
        tellers = (*AGREED, ("cy", AGREED[1][1]), ("dee", ANA[1]))
        self.find(tellers, "a", "c", ("ana", "bo"))

    def test_only_sets_that_are_consistent_together(self):
        for a, b, names in (("a", "b", ("ana",)), ("b", "a", ("bo",)), ("a", "a", None), ("b", "b", None)):
            self.find(TORN, a, b, names)
        # Only ana and bo would say that a is before d, but they contradict each other.
        tellers = (("ana", chain("then", "abc")), ("bo", chain("then", "cbd")))
        self.find(tellers, "a", "d", None)
        self.find(tellers + (("cy", (("at", "b"), ("then", "d"))),), "a", "d", ("ana", "cy"))

    def test_a_set_that_does_not_name_the_moments(self):
        tellers = (("ana", (("at", "x"),)), ("bo", (("at", "a"),)), ("cy", ANA[1]))
        self.find(tellers, "a", "b", ("cy",))

    def test_drawn_tellers_against_all_sets(self):
        many = set()
        for tellers in drawn_tellers(431, 120, 7, SMALL) + drawn_tellers(432, 60, 5, SMALL[:3]):
            for a, b in itertools.product(plain_moments(joined(tellers)), repeat=2):
                names = plain_backers(tellers, a, b)
                self.assertEqual(backers(tellers, a, b), names, (tellers, a, b))
                many.add(names and len(names))
        self.assertLessEqual({None, 1, 2, 3}, many)

    def test_unknown_moments(self):
        for thing in (*ANYTHING, "z", ("at", "a")):
            for given in ((thing, "a"), ("a", thing), (thing, thing), (thing, "q")):
                for tellers in (AGREED, TORN):
                    assert_raises(self, UnknownMoment, "name", thing, backers, tellers, *given)
        assert_raises(self, UnknownMoment, "name", "a", backers, (("ana", ()),), "a", "b")

    def test_moments_of_different_tellers_are_known(self):
        self.find((("ana", (("at", "a"),)), ("bo", (("at", "b"),))), "a", "b", None)


class ErrorTests(unittest.TestCase):
    def test_invalid_tellers_come_first(self):
        for tellers, problem in BAD_TELLERS:
            assert_raises(self, InvalidTellers, "problem", problem, suspects, tellers)
            assert_raises(self, InvalidTellers, "problem", problem, dismissed, tellers)
            for a, b in (("a", "b"), ("q", None)):
                assert_raises(self, InvalidTellers, "problem", problem, backers, tellers, a, b)

    def test_anything(self):
        for thing in ANYTHING:
            for call, more in ((suspects, ()), (dismissed, ()), (backers, ("q", "q"))):
                assert_raises(self, InvalidTellers, "problem", ("form",), call, thing, *more)


if __name__ == "__main__":
    unittest.main()
