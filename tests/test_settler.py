"""Point 14: Settler and settle."""

import itertools
import random
import unittest

from backthen.counts import count_timelines
from backthen.errors import InvalidAnswer, InvalidTale, InvalidTimeline, NoQuestion, NothingToUndo, TooLarge
from backthen.ranking import middle_pair
from backthen.settler import Settler, settle
from tests.helper import (
    ANYTHING, BAD_TALES, assert_plain, assert_raises, chain, crown, drawn_pairs, drawn_tales, layers, many_names,
    plain_check_timeline, plain_timelines,
)

TALE = (("at", "a"), ("then", "b"), ("at", "c"))
PAIRS = (("at", "b"), ("with", "a"), ("at", "d"), ("with", "c"))
NAMES = many_names(9)


def told(tale, answers):
    """The tale, followed by the sentences for the answers."""
    for first, second in answers:
        tale += (("at", first), ("then", second))
    return tale


def small_tales():
    source = random.Random(441)
    pairs = [drawn_pairs(source, ("b", "a", "ab", "z"), source.randint(0, 3)) for _ in range(10)]
    return drawn_tales(443, 25, 7, ("b", "a", "ab", "z")) + pairs + [crown("abcd"), chain("at", "dcba")]


def plain_middle(lines):
    """The two groups that are asked for, if these are the timelines that are left: None for one timeline."""
    found = []
    for g, h in itertools.combinations(sorted(lines[0]), 2):
        ahead = sum(line.index(g) < line.index(h) for line in lines)
        if 0 < ahead < len(lines):
            found.append((abs(2 * ahead - len(lines)), g, h))
    return min(found)[1:] if found else None


class SettlerTests(unittest.TestCase):
    def check_state(self, settler, tale, answers, lines):
        """The settler tells all that follows from the tale, the answers and the timelines that are left."""
        pair = plain_middle(lines)
        self.assertEqual(settler.question(), None if pair is None else (pair[0][0], pair[1][0]))
        self.assertEqual(settler.remaining(), len(lines))
        self.assertEqual(settler.answers(), answers)
        self.assertEqual(settler.tale(), told(tale, answers))
        self.assertEqual(settler.result(), lines[0] if len(lines) == 1 else None)
        middle = middle_pair(settler.tale())
        self.assertEqual(settler.question(), None if middle is None else middle[:2])
        self.assertEqual(settler.remaining(), count_timelines(settler.tale()))

    def check_all_answers(self, settler, tale, answers, lines):
        """Every sequence of answers, each undone again."""
        self.check_state(settler, tale, answers, lines)
        pair = plain_middle(lines)
        if pair is None:
            assert_plain(self, NoQuestion, settler.answer, tale[0][1] if tale else "a")
            self.check_state(settler, tale, answers, lines)
            return
        for g, h in (pair, pair[::-1]):
            self.assertIsNone(settler.answer(g[0]))
            left = [line for line in lines if line.index(g) < line.index(h)]
            self.check_all_answers(settler, tale, answers + [(g[0], h[0])], left)
            self.assertIsNone(settler.undo())
            self.check_state(settler, tale, answers, lines)

    def test_example(self):
        settler = Settler((("at", "a"), ("then", "b"), ("at", "c")))
        settler.answer("a")
        self.assertEqual([settler.question(), settler.remaining(), settler.answers()], [("b", "c"), 2, [("a", "c")]])

    def test_empty_tale(self):
        settler = Settler(())
        self.check_all_answers(settler, (), [], [()])
        self.assertEqual((settler.question(), settler.remaining(), settler.result()), (None, 1, ()))

    def test_one_timeline(self):
        for tale in (chain("then", "ab"), chain("with", "ab"), chain("at", "a")):
            settler = Settler(tale)
            self.assertEqual((settler.question(), settler.remaining()), (None, 1))
            self.assertEqual(settler.result(), plain_timelines(tale)[0])

    def test_every_sequence_of_answers(self):
        for tale in small_tales():
            with self.subTest(tale=tale):
                self.check_all_answers(Settler(tale), tale, [], sorted(plain_timelines(tale)))

    def test_groups_of_several_moments(self):
        settler = Settler(PAIRS)
        self.assertEqual(settler.question(), ("a", "c"))
        for first in ("b", "d"):
            assert_raises(self, InvalidAnswer, "first", first, settler.answer, first)
        settler.answer("c")
        self.assertEqual(settler.answers(), [("c", "a")])
        self.assertEqual(settler.tale(), PAIRS + (("at", "c"), ("then", "a")))
        self.assertEqual(settler.result(), (("c", "d"), ("a", "b")))

    def test_answers_against_the_order_of_the_question(self):
        settler = Settler(TALE)
        settler.answer("c")
        self.assertEqual(settler.answers(), [("c", "a")])
        self.assertEqual(settler.tale(), TALE + (("at", "c"), ("then", "a")))
        self.assertEqual((settler.question(), settler.remaining()), (None, 1))
        self.assertEqual(settler.result(), (("c",), ("a",), ("b",)))

    def test_kinds(self):
        settler = Settler(TALE)
        settler.answer("a")
        self.assertEqual([type(part) for part in settler.question()], [str, str])
        self.assertEqual((type(settler.question()), type(settler.remaining())), (tuple, int))
        self.assertEqual((type(settler.answers()), type(settler.answers()[0])), (list, tuple))
        self.assertEqual((type(settler.tale()), type(settler.tale()[-1])), (tuple, tuple))
        settler.answer("c")
        self.assertEqual((type(settler.result()), type(settler.result()[0])), (tuple, tuple))

    def test_a_list_that_is_changed_has_no_effect(self):
        settler = Settler(TALE)
        settler.answer("a")
        settler.answers().clear()
        settler.answers().append(("c", "a"))
        self.assertEqual((settler.answers(), settler.remaining()), ([("a", "c")], 2))

    def test_arguments_by_name(self):
        settler = Settler(tale=TALE)
        settler.answer(first="a")
        self.assertEqual(settler.answers(), [("a", "c")])


class AnswerTests(unittest.TestCase):
    def test_answers_that_name_neither_moment(self):
        settler = Settler(TALE)
        for first in (*ANYTHING, "b", "q", ("a",), ["a"], ("a", "c"), "ac", 0):
            assert_raises(self, InvalidAnswer, "first", first, settler.answer, first)
        self.assertEqual((settler.answers(), settler.question()), ([], ("a", "c")))
        self.assertEqual(settler, Settler(TALE))

    def test_no_question_comes_before_invalid_answers(self):
        settler = Settler(chain("then", "ab"))
        for first in (*ANYTHING, "a", "b", "q"):
            assert_plain(self, NoQuestion, settler.answer, first)
        self.assertEqual(settler.answers(), [])

    def test_undo(self):
        settler = Settler(TALE)
        assert_plain(self, NothingToUndo, settler.undo)
        settler.answer("a")
        settler.answer("b")
        self.assertIsNone(settler.undo())
        self.assertEqual((settler.answers(), settler.question()), ([("a", "c")], ("b", "c")))
        settler.answer("c")
        self.assertEqual(settler.answers(), [("a", "c"), ("c", "b")])
        settler.undo()
        settler.undo()
        self.assertEqual((settler.answers(), settler.remaining(), settler.tale()), ([], 3, TALE))
        assert_plain(self, NothingToUndo, settler.undo)
        self.assertEqual(settler, Settler(TALE))

    def test_a_refused_answer_leaves_undo_as_it_was(self):
        settler = Settler(TALE)
        settler.answer("c")
        assert_plain(self, NoQuestion, settler.answer, "a")
        settler.undo()
        assert_raises(self, InvalidAnswer, "first", "b", settler.answer, "b")
        assert_plain(self, NothingToUndo, settler.undo)


class CopyTests(unittest.TestCase):
    def test_copies_go_on_alone(self):
        settler = Settler(TALE)
        settler.answer("a")
        twin = settler.copy()
        self.assertIs(type(twin), Settler)
        self.assertIsNot(twin, settler)
        self.assertEqual((twin.answers(), twin.tale()), (settler.answers(), settler.tale()))
        twin.answer("b")
        self.assertEqual((settler.answers(), twin.answers()), ([("a", "c")], [("a", "c"), ("b", "c")]))
        settler.answer("c")
        self.assertEqual((settler.result(), twin.result()), ((("a",), ("c",), ("b",)), (("a",), ("b",), ("c",))))
        twin.undo()
        twin.undo()
        self.assertEqual((len(settler.answers()), len(twin.answers())), (2, 0))
        assert_plain(self, NothingToUndo, twin.undo)
        settler.undo()
        settler.undo()
        self.assertEqual(settler, twin)

    def test_equal_settlers(self):
        one, other = Settler(TALE), Settler(TALE)
        self.assertTrue(one == other)
        self.assertFalse(one != other)
        one.answer("a")
        self.assertFalse(one == other)
        self.assertTrue(one != other)
        other.answer("c")
        self.assertNotEqual(one, other)
        other.undo()
        other.answer("a")
        self.assertEqual(one, other)
        self.assertEqual(one, one.copy())

    def test_the_tales_count_and_not_their_orders(self):
        self.assertNotEqual(Settler(TALE), Settler(TALE + (("at", "a"),)))
        self.assertNotEqual(Settler(TALE), Settler((("at", "b"), ("back", "a"), ("at", "c"))))
        settler = Settler(TALE)
        settler.answer("a")
        self.assertNotEqual(settler, Settler(settler.tale()))

    def test_anything_else_is_unequal(self):
        for value in (*ANYTHING, TALE, [], (TALE, []), object(), Settler):
            self.assertFalse(Settler(TALE) == value)
            self.assertTrue(Settler(TALE) != value)
            self.assertFalse(value == Settler(TALE))
        self.assertFalse(Settler(()) == ())


class SettleTests(unittest.TestCase):
    def test_example(self):
        self.assertEqual(settle(TALE, (("a",), ("b",), ("c",))), [("a", "c"), ("b", "c")])

    def test_one_timeline(self):
        self.assertEqual(settle((), ()), [])
        self.assertEqual(settle(chain("then", "ab"), (("a",), ("b",))), [])

    def test_every_timeline_of_small_tales(self):
        for tale in small_tales() + [crown("abcde")]:
            for line in plain_timelines(tale):
                lines, answers = sorted(plain_timelines(tale)), []
                while plain_middle(lines) is not None:
                    g, h = sorted(plain_middle(lines), key=line.index)
                    answers.append((g[0], h[0]))
                    lines = [left for left in lines if left.index(g) < left.index(h)]
                found = settle(tale, line)
                self.assertEqual(found, answers, (tale, line))
                self.assertEqual(plain_timelines(told(tale, found)), [line])

    def test_eight_groups(self):
        source = random.Random(449)
        tales = (chain("at", NAMES[:8]), layers([NAMES[:4], NAMES[4:8]]), crown(NAMES[:8]), chain("then", NAMES[:8]))
        for tale in tales:
            for _ in range(3):
                names = source.sample(NAMES[:4], 4) + source.sample(NAMES[4:8], 4)
                line = tuple((name,) for name in (NAMES[:8] if tale == tales[3] else names))
                if tale == tales[2]:
                    line = tuple(sorted(line[:4])) + line[4:]
                self.assertIsNone(plain_check_timeline(tale, line))
                settler = Settler(tale)
                for first, second in settle(tale, line):
                    self.assertIn(settler.question(), ((first, second), (second, first)))
                    settler.answer(first)
                self.assertEqual(settler.result(), line)

    def test_a_list_that_is_changed_has_no_effect(self):
        found = settle(TALE, (("a",), ("b",), ("c",)))
        self.assertIs(type(found), list)
        found.clear()
        self.assertEqual(len(settle(TALE, (("a",), ("b",), ("c",)))), 2)


class ErrorTests(unittest.TestCase):
    def test_invalid_tales(self):
        for tale, problem in BAD_TALES:
            assert_raises(self, InvalidTale, "problem", problem, Settler, tale)
            for line in ((), None, (("a",),)):
                assert_raises(self, InvalidTale, "problem", problem, settle, tale, line)
        for thing in ANYTHING:
            if not isinstance(thing, tuple):
                assert_raises(self, InvalidTale, "problem", ("form",), Settler, thing)

    def test_eight_groups_and_nine(self):
        line = tuple((name,) for name in NAMES)
        self.assertEqual(Settler(chain("at", NAMES[:8])).remaining(), 40320)
        self.assertEqual(Settler(chain("with", NAMES)).result(), (tuple(NAMES),))
        self.assertEqual(settle(chain("then", NAMES[:8]), line[:8]), [])
        for word in ("at", "then"):
            assert_plain(self, TooLarge, Settler, chain(word, NAMES))
            assert_plain(self, TooLarge, settle, chain(word, NAMES), line)

    def test_groups_are_counted_and_not_moments(self):
        tale = chain("with", many_names(30)) + chain("at", ("a", "b", "c", "d", "e", "f", "g"))
        self.assertEqual(Settler(tale).remaining(), 40320)
        assert_plain(self, TooLarge, Settler, tale + (("at", "h"),))

    def test_invalid_tale_comes_before_too_large(self):
        tale = chain("then", NAMES) + (("then", NAMES[0]),)
        assert_raises(self, InvalidTale, "problem", ("cycle", 9), Settler, tale)
        assert_raises(self, InvalidTale, "problem", ("cycle", 9), settle, tale, ())

    def test_invalid_timelines(self):
        for thing in (*ANYTHING, (("a",), ("b",)), (("b",), ("a",), ("c",)), [("a",), ("b",), ("c",)]):
            problem = plain_check_timeline(TALE, thing)
            assert_raises(self, InvalidTimeline, "problem", problem, settle, TALE, thing)

    def test_invalid_timeline_comes_before_too_large(self):
        for thing in (*ANYTHING, tuple((name,) for name in NAMES[::-1])):
            problem = plain_check_timeline(chain("then", NAMES), thing)
            assert_raises(self, InvalidTimeline, "problem", problem, settle, chain("then", NAMES), thing)


if __name__ == "__main__":
    unittest.main()
