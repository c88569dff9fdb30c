"""Points 2.1 to 2.6 and 5: check_tale, stands and moments."""

import copy
import itertools
import unittest

from backthen.tales import check_tale, moments, stands
from tests.helper import ANYTHING, WORDS, all_tales, drawn_any, plain_cycle, plain_moments


class CheckTaleTests(unittest.TestCase):
    def check(self, thing, problem):
        kept = copy.deepcopy(thing)
        self.assertEqual(check_tale(thing), problem)
        self.assertEqual(thing, kept)

    def test_examples(self):
        self.check((("at", "a"), ("then", "b"), ("then", "a")), ("cycle", 2))
        self.check((("then", "a"),), ("sentence", 0))

    def test_consistent_tales(self):
        self.check((), None)
        self.check((("at", "a"),), None)
        self.check((("at", "a"), ("at", "a"), ("with", "a")), None)
        self.check((("at", "at"), ("then", "with"), ("at", "at"), ("later", "with")), None)
        self.check((("at", "abcdefgh"), ("earlier", "z")), None)

    def test_no_tuples(self):
        for thing in ANYTHING:
            if not isinstance(thing, tuple):
                self.check(thing, ("form",))
        self.check([("at", "a")], ("form",))
        self.check("at", ("form",))

    def test_items_that_are_no_tuples(self):
        for item in (*ANYTHING, ["at", "a"], "at a", "aa"):
            with self.subTest(item=item):
                self.check((item,), ("sentence", 0))
                self.check((("at", "a"), ("then", "b"), item), ("sentence", 2))

    def test_items_of_another_length(self):
        for item in ((), ("at",), ("at", "a", "a"), ("at", "a", None)):
            with self.subTest(item=item):
                self.check((("at", "a"), item), ("sentence", 1))

    def test_other_words(self):
        for word in (*ANYTHING, "At", "AT", "before", "at ", "a", "t", "atthen", ("at",), ["at"]):
            with self.subTest(word=word):
                self.check(((word, "a"),), ("sentence", 0))
                self.check((("at", "a"), (word, "b")), ("sentence", 1))

    def test_other_moments(self):
        names = [thing for thing in ANYTHING]
        names += ["", "abcdefghi", "aB", "Z", "a1", "1", "a-b", "a b", "a_", "`", "{", "a\t", "ab" * 40]
        for name in names:
            with self.subTest(name=name):
                self.check((("at", name),), ("sentence", 0))
                self.check((("at", "a"), ("then", "b"), ("with", name)), ("sentence", 2))

    def test_every_letter_and_length_is_a_moment(self):
        for letter in "abcdefghijklmnopqrstuvwxyz":
            for length in range(1, 9):
                self.check((("at", letter * length),), None)
            self.check((("at", letter * 9),), ("sentence", 0))

    def test_first_word(self):
        for word in WORDS:
            self.check(((word, "a"),), None if word == "at" else ("sentence", 0))
            self.check(((word, "a"), None), ("sentence", 1 if word == "at" else 0))

    def test_sentence_before_cycle_and_the_smallest_index(self):
        cycle = (("at", "a"), ("then", "a"))
        self.check(cycle, ("cycle", 1))
        self.check(cycle + (("then", ""),), ("sentence", 2))
        self.check((("at", "a"), ("then", ""), None), ("sentence", 1))
        self.check((("then", "a"), ("then", "a")), ("sentence", 0))

    def test_step_to_itself(self):
        for word in WORDS:
            problem = None if word in ("at", "with") else ("cycle", 1)
            self.check((("at", "a"), (word, "a")), problem)

    def test_cycle_closed_by_with(self):
        self.check((("at", "a"), ("then", "b"), ("with", "a")), ("cycle", 2))
        self.check((("at", "a"), ("then", "b"), ("then", "c"), ("with", "d"), ("at", "d"), ("with", "a")), ("cycle", 5))

    def test_step_inside_a_group(self):
        self.check((("at", "a"), ("with", "b"), ("with", "c"), ("at", "b"), ("earlier", "c")), ("cycle", 4))

    def test_cycle_through_groups_of_several_moments(self):
        tale = (
            ("at", "a"), ("with", "b"), ("at", "c"), ("with", "d"), ("at", "e"), ("with", "f"),
            ("at", "b"), ("later", "c"), ("at", "d"), ("later", "e"), ("at", "f"),
        )
        self.check(tale, None)
        self.check(tale + (("later", "a"),), ("cycle", 11))
        self.check(tale + (("earlier", "a"), ("with", "a")), ("cycle", 12))

    def test_smallest_index_of_several(self):
        tale = (("at", "a"), ("then", "b"), ("at", "c"), ("then", "d"))
        self.check(tale + (("then", "c"), ("at", "b"), ("then", "a")), ("cycle", 4))
        self.check(tale + (("with", "d"), ("earlier", "d"), ("then", "c")), ("cycle", 5))
        self.check((("at", "a"), ("back", "a")) + (("then", "a"),) * 30, ("cycle", 1))

    def test_mentions_do_not_move(self):
        self.check((("at", "a"), ("later", "b"), ("later", "c"), ("at", "b"), ("back", "c")), None)
        self.check((("at", "a"), ("then", "b"), ("then", "c"), ("at", "c"), ("then", "b")), ("cycle", 4))
        self.check((("at", "a"), ("with", "b"), ("then", "c"), ("back", "b")), None)

    def test_all_short_tales_against_the_plain_closing(self):
        for names, longest in ((("a", "b"), 4), (("a", "b", "c"), 3)):
            for length in range(1, longest + 1):
                for tale in all_tales(length, names):
                    index = plain_cycle(tale)
                    self.assertEqual(check_tale(tale), None if index is None else ("cycle", index), tale)

    def test_drawn_tales_against_the_plain_closing(self):
        for tale in drawn_any(5, 300, 12):
            index = plain_cycle(tale)
            self.assertEqual(check_tale(tale), None if index is None else ("cycle", index), tale)


class StandsTests(unittest.TestCase):
    def test_examples(self):
        self.assertEqual(stands((("at", "a"), ("later", "b"), ("back", "c"))), ["a", "a", "c"])
        self.assertEqual(moments((("at", "a"), ("back", "c"), ("then", "b"))), ["a", "b", "c"])

    def test_empty_tale(self):
        self.assertEqual(stands(()), [])
        self.assertEqual(moments(()), [])

    def test_each_word(self):
        for word in WORDS:
            tale = (("at", "a"), (word, "b"), ("with", "c"))
            stand = "b" if word in ("at", "then", "back") else "a"
            with self.subTest(word):
                self.assertEqual(stands(tale), ["a", stand, stand])
                self.assertEqual(moments(tale), ["a", "b", "c"])

    def test_all_pairs_of_words(self):
        for one, other in itertools.product(WORDS, repeat=2):
            first = "b" if one in ("at", "then", "back") else "a"
            second = "c" if other in ("at", "then", "back") else first
            self.assertEqual(stands((("at", "a"), (one, "b"), (other, "c"))), ["a", first, second])

    def test_moments_named_again_and_their_order(self):
        tale = (("at", "b"), ("then", "ba"), ("at", "b"), ("later", "a"), ("with", "b"), ("at", "ab"))
        self.assertEqual(moments(tale), ["a", "ab", "b", "ba"])
        self.assertEqual(stands(tale), ["b", "ba", "b", "b", "b", "ab"])

    def test_drawn_tales(self):
        for tale in drawn_any(7, 100, 9):
            if check_tale(tale) is None:
                self.assertEqual(moments(tale), plain_moments(tale))
                self.assertEqual(len(stands(tale)), len(tale))


if __name__ == "__main__":
    unittest.main()
