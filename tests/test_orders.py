"""Points 2.5 to 2.8 and 6: groups, covers, components, cycle_rank and relation."""

import itertools
import unittest

from backthen.errors import InvalidTale, UnknownMoment
from backthen.orders import components, covers, cycle_rank, groups, relation
from tests.helper import (
    ANYTHING, BAD_TALES, all_tales, assert_raises, drawn_tales, plain_components, plain_consistent,
    plain_covers, plain_groups, plain_moments, plain_relation,
)

GROUPED = (("at", "b"), ("with", "a"), ("then", "c"))


class OrderTests(unittest.TestCase):
    def test_examples(self):
        self.assertEqual(groups(GROUPED), [("a", "b"), ("c",)])
        self.assertEqual(covers(GROUPED), [(("a", "b"), ("c",))])
        tale = (("at", "a"), ("then", "b"), ("at", "c"))
        self.assertEqual(components(tale), [[("a",), ("b",)], [("c",)]])
        diamond = (("at", "a"), ("then", "b"), ("then", "d"), ("at", "a"), ("then", "c"), ("then", "d"))
        self.assertEqual(cycle_rank(diamond), 1)

    def test_empty_tale(self):
        self.assertEqual((groups(()), covers(()), components(()), cycle_rank(())), ([], [], [], 0))

    def test_groups_by_chains_of_with(self):
        tale = (("at", "c"), ("with", "b"), ("at", "a"), ("with", "b"), ("at", "aa"), ("with", "aa"))
        self.assertEqual(groups(tale), [("a", "b", "c"), ("aa",)])

    def test_groups_are_ordered_as_tuples(self):
        tale = (("at", "b"), ("with", "ab"), ("at", "a"), ("with", "z"), ("at", "aa"))
        self.assertEqual(groups(tale), [("a", "z"), ("aa",), ("ab", "b")])

    def test_covers_leave_out_what_lies_farther(self):
        tale = (("at", "a"), ("then", "b"), ("then", "c"), ("earlier", "a"), ("then", "d"), ("earlier", "b"))
        self.assertEqual(covers(tale), [(("a",), ("b",)), (("b",), ("c",)), (("c",), ("d",))])
        self.assertEqual(cycle_rank(tale), 0)

    def test_a_cover_may_be_told_long_before_what_lies_between(self):
        tale = (("at", "a"), ("then", "c"))
        self.assertEqual(covers(tale), [(("a",), ("c",))])
        longer = tale + (("earlier", "b"), ("at", "b"), ("earlier", "a"))
        self.assertEqual(covers(longer), [(("a",), ("b",)), (("b",), ("c",))])

    def test_a_cover_between_groups_of_several_moments(self):
        tale = (("at", "b"), ("later", "x"), ("with", "a"), ("at", "y"), ("with", "x"), ("earlier", "a"))
        self.assertEqual(covers(tale), [(("a", "b"), ("x", "y"))])

    def test_components_are_linked_in_either_direction(self):
        tale = (("at", "m"), ("earlier", "b"), ("earlier", "z"), ("at", "a"), ("at", "c"), ("with", "d"))
        self.assertEqual(components(tale), [[("a",)], [("b",), ("m",), ("z",)], [("c", "d")]])

    def test_cycle_rank_of_rows(self):
        for many in range(1, 5):
            tale = ()
            for k in range(many):
                tale += (("at", "b" * (k + 1)), ("earlier", "a"), ("later", "c"))
            self.assertEqual(cycle_rank(tale), many - 1)

    def test_drawn_tales_against_the_plain_closing(self):
        for tale in drawn_tales(11, 250, 12):
            with self.subTest(tale=tale):
                found = plain_groups(tale)
                pairs = plain_covers(tale)
                parts = plain_components(tale)
                self.assertEqual(groups(tale), found)
                self.assertEqual(covers(tale), pairs)
                self.assertEqual(components(tale), parts)
                self.assertEqual(cycle_rank(tale), len(pairs) - len(found) + len(parts))

    def test_kinds_of_what_is_returned(self):
        tale = GROUPED + (("at", "d"),)
        for result, kind in ((groups(tale), tuple), (covers(tale), tuple), (components(tale), list)):
            self.assertIs(type(result), list)
            self.assertEqual({type(item) for item in result}, {kind})

    def test_changed_results_have_no_effect(self):
        tale = GROUPED + (("at", "d"),)
        for function in (groups, covers, components):
            kept = function(tale)
            changed = function(tale)
            for item in changed:
                if isinstance(item, list):
                    item.reverse()
                    item.append(("z",))
            changed.reverse()
            changed.append(None)
            self.assertEqual(function(tale), kept)
        self.assertEqual(cycle_rank(tale), 1 - 3 + 2)


class RelationTests(unittest.TestCase):
    def test_examples(self):
        self.assertEqual(relation(GROUPED, "a", "c"), "before")
        assert_raises(self, UnknownMoment, "name", "z", relation, (("at", "a"), ("then", "b")), "a", "z")

    def test_each_relation(self):
        tale = GROUPED + (("at", "d"),)
        self.assertEqual(relation(tale, "c", "b"), "after")
        self.assertEqual(relation(tale, "b", "a"), "same")
        self.assertEqual(relation(tale, "d", "d"), "same")
        self.assertEqual(relation(tale, "d", "a"), "unknown")

    def test_each_word(self):
        expected = {
            "at": "unknown", "then": "before", "back": "after",
            "later": "before", "earlier": "after", "with": "same",
        }
        for word, found in expected.items():
            self.assertEqual(relation((("at", "a"), (word, "b")), "a", "b"), found)

    def test_all_pairs_of_drawn_tales(self):
        for tale in drawn_tales(13, 80, 12):
            for a, b in itertools.product(plain_moments(tale), repeat=2):
                self.assertEqual(relation(tale, a, b), plain_relation(tale, a, b), (tale, a, b))

    def test_all_pairs_of_all_short_tales(self):
        for tale in all_tales(3, ("a", "b", "c")):
            if plain_consistent(tale):
                for a, b in itertools.product(plain_moments(tale), repeat=2):
                    self.assertEqual(relation(tale, a, b), plain_relation(tale, a, b), (tale, a, b))

    def test_unknown_names(self):
        for thing in (*ANYTHING, "z", "ab", "at", ("at", "a")):
            with self.subTest(thing=thing):
                assert_raises(self, UnknownMoment, "name", thing, relation, GROUPED, thing, "a")
                assert_raises(self, UnknownMoment, "name", thing, relation, GROUPED, "a", thing)
                assert_raises(self, UnknownMoment, "name", thing, relation, GROUPED, thing, thing)
                assert_raises(self, UnknownMoment, "name", thing, relation, GROUPED, thing, "q")
                assert_raises(self, UnknownMoment, "name", "q", relation, GROUPED, "q", thing)
                assert_raises(self, UnknownMoment, "name", thing, relation, (), thing, "a")

    def test_unknown_name_is_kept_as_it_is(self):
        name = ["a"]
        with self.assertRaises(UnknownMoment) as caught:
            relation(GROUPED, "a", name)
        self.assertIs(caught.exception.name, name)

    def test_invalid_tale_before_unknown_name(self):
        for tale, problem in BAD_TALES:
            assert_raises(self, InvalidTale, "problem", problem, relation, tale, "unknown", None)


if __name__ == "__main__":
    unittest.main()
