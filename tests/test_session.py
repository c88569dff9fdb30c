"""Point 15: Session."""

import itertools
import random
import unittest

from backthen.errors import Conflict, InvalidName, InvalidTale, NothingToUndo, TooManyTellers, UnknownMoment
from backthen.evidence import explain_relation
from backthen.session import Session
from backthen.tales import check_tale
from backthen.tellers import check_tellers, conflict, join
from tests.helper import (
    ANYTHING, TELLER_NAMES, WORDS, assert_plain, assert_raises, chain, drawn_tellers, joined, joined_names,
    plain_consistent, plain_moments, plain_relation,
)

BAD_NAMES = (*ANYTHING, "Ana", "abcdefghi", "an a", "ana1", ("ana",), ["ana"])
BAD_SENTENCES = (*ANYTHING, ("at",), ["at", "a"], ("At", "a"), ("at", "A"), ("at", "a", "a"), "at a", ("at", "abcdefghi"))


def told(*sentences):
    """A session in which these sentences (teller, word, moment) were told."""
    session = Session()
    for teller, word, moment in sentences:
        session.tell(teller, (word, moment))
    return session


def plain_tellers(kept):
    return tuple((name, tuple(s for teller, s in kept if teller == name)) for name in sorted({name for name, _ in kept}))


def plain_before(kept):
    """All pairs of moments (a, b), ascending, with a before b."""
    tale = joined(plain_tellers(kept))
    pairs = itertools.product(plain_moments(tale), repeat=2)
    return [(a, b) for a, b in pairs if plain_relation(tale, a, b) == "before"]


def state(session):
    """All that the session answers, for comparison."""
    tale = session.tale()
    pairs = list(itertools.product(plain_moments(tale), repeat=2))
    return (
        session.tellers(), tale, len(session), session.news(),
        [session.relation(a, b) for a, b in pairs], [session.explain_relation(a, b) for a, b in pairs],
    )


class StateTests(unittest.TestCase):
    def test_examples(self):
        session = Session()
        session.tell("ana", ("at", "a"))
        session.tell("ana", ("then", "b"))
        self.assertEqual([session.news(), session.relation("b", "a"), len(session)], [[("a", "b")], "after", 2])
        session.tell("bo", ("at", "b"))
        assert_raises(self, Conflict, "ring", (("ana", 1), ("bo", 1)), session.tell, "bo", ("then", "a"))

    def test_a_new_session(self):
        session = Session()
        self.assertEqual(state(session), ((), (), 0, [], [], []))
        assert_plain(self, NothingToUndo, session.undo)
        for call in (session.relation, session.explain_relation):
            assert_raises(self, UnknownMoment, "name", "a", call, "a", "b")

    def test_tell_and_undo_return_none(self):
        session = Session()
        self.assertIsNone(session.tell("ana", ("at", "a")))
        self.assertIsNone(session.undo())

    def test_tellers_ascend(self):
        session = told(("cy", "at", "a"), ("ana", "at", "c"), ("bo", "at", "b"), ("ana", "then", "d"), ("cy", "then", "e"))
        self.assertEqual(session.tellers(), (
            ("ana", (("at", "c"), ("then", "d"))), ("bo", (("at", "b"),)), ("cy", (("at", "a"), ("then", "e"))),
        ))
        self.assertEqual(session.tale(), (("at", "c"), ("then", "d"), ("at", "b"), ("at", "a"), ("then", "e")))
        self.assertEqual(len(session), 5)

    def test_each_teller_stands_at_a_moment_of_their_own(self):
        session = told(("ana", "at", "a"), ("bo", "at", "b"), ("ana", "then", "c"), ("bo", "then", "d"))
        self.assertEqual([session.relation("a", "c"), session.relation("b", "d")], ["before", "before"])
        self.assertEqual([session.relation("b", "c"), session.relation("a", "d")], ["unknown", "unknown"])

    def test_relation(self):
        session = told(("ana", "at", "a"), ("ana", "then", "b"), ("bo", "at", "b"), ("bo", "with", "c"), ("bo", "at", "d"))
        for a, b, word in (("a", "c", "before"), ("c", "a", "after"), ("c", "b", "same"), ("a", "d", "unknown")):
            self.assertEqual(session.relation(a, b), word)

    def test_explain_relation(self):
        session = told(("bo", "at", "a"), ("bo", "then", "b"), ("ana", "at", "b"), ("ana", "with", "c"), ("cy", "at", "d"))
        self.assertEqual(session.explain_relation("a", "c"), ("before", (("bo", 1), ("ana", 1))))
        self.assertEqual(session.explain_relation("c", "a"), ("after", (("bo", 1), ("ana", 1))))
        self.assertEqual(session.explain_relation("b", "c"), ("same", (("ana", 1),)))
        self.assertEqual(session.explain_relation("b", "b"), ("same", ()))
        self.assertEqual(session.explain_relation("d", "a"), (
            "unknown", (("d",), ("a",), ("b", "c")), (("a",), ("b", "c"), ("d",)),
        ))

    def test_the_least_chain_by_names_and_indices(self):
        session = told(*[("bo", *sentence) for sentence in chain("then", "ab")])
        for _ in range(9):
            session.tell("ana", ("at", "a"))
        session.tell("ana", ("at", "x"))
        session.tell("ana", ("at", "a"))
        session.tell("ana", ("later", "b"))
        self.assertEqual(session.explain_relation("a", "b"), ("before", (("ana", 11),)))
        session.tell("ab", ("at", "a"))
        session.tell("ab", ("then", "b"))
        self.assertEqual(session.explain_relation("a", "b"), ("before", (("ab", 1),)))

    def test_unknown_moments(self):
        session = told(("ana", "at", "a"), ("bo", "at", "b"))
        for thing in (*ANYTHING, "z", ("at", "a")):
            for given in ((thing, "a"), ("a", thing), (thing, thing), (thing, "q")):
                for call in (session.relation, session.explain_relation):
                    assert_raises(self, UnknownMoment, "name", thing, call, *given)
        self.assertEqual(session.relation("a", "b"), "unknown")

    def test_drawn_sessions(self):
        """Every answer against what was kept, with sentences of all kinds, and sentences taken back."""
        source = random.Random(461)
        refused = 0
        for _ in range(40):
            session, kept, fresh = Session(), [], False
            for _ in range(14):
                teller = source.choice(("b", "ana", "bo"))
                sentence = (source.choice(WORDS), source.choice(("b", "a", "ab", "z", "c")))
                before = plain_before(kept)
                tale = dict(plain_tellers(kept + [(teller, sentence)]))[teller]
                if source.random() < 0.2 and kept:
                    session.undo()
                    kept, fresh = kept[:-1], False
                elif check_tale(tale) is not None:
                    refused += 1
                    assert_raises(self, InvalidTale, "problem", check_tale(tale), session.tell, teller, sentence)
                elif not plain_consistent(joined(plain_tellers(kept + [(teller, sentence)]))):
                    refused += 1
                    ring = conflict(plain_tellers(kept + [(teller, sentence)]))
                    assert_raises(self, Conflict, "ring", ring, session.tell, teller, sentence)
                else:
                    session.tell(teller, sentence)
                    kept, fresh = kept + [(teller, sentence)], True
                    news = [pair for pair in plain_before(kept) if pair not in before]
                self.assertEqual(session.tellers(), plain_tellers(kept))
                self.assertEqual(session.tale(), joined(plain_tellers(kept)))
                self.assertEqual((len(session), session.news()), (len(kept), news if fresh else []))
                self.check_pairs(session, plain_tellers(kept))
        self.assertGreater(refused, 50)

    def check_pairs(self, session, tellers):
        names, tale = joined_names(tellers), joined(tellers)
        for a, b in itertools.product(plain_moments(tale)[:3], repeat=2):
            self.assertEqual(session.relation(a, b), plain_relation(tale, a, b))
            found = explain_relation(tale, a, b)
            if found[0] != "unknown":
                found = (found[0], tuple(names[step] for step in found[1]))
            self.assertEqual(session.explain_relation(a, b), found)

    def test_kinds(self):
        session = told(("ana", "at", "a"), ("ana", "then", "b"))
        self.assertEqual([type(part) for part in (session.tellers(), session.tale(), session.news())], [tuple, tuple, list])
        self.assertEqual((type(session.news()[0]), type(len(session))), (tuple, int))
        word, steps = session.explain_relation("a", "b")
        self.assertEqual((type(word), type(steps), type(steps[0]), type(steps[0][1])), (str, tuple, tuple, int))
        self.assertIsNone(check_tellers(session.tellers()))

    def test_a_list_that_is_changed_has_no_effect(self):
        session = told(("ana", "at", "a"), ("ana", "then", "b"))
        session.news().clear()
        self.assertEqual(session.news(), [("a", "b")])

    def test_arguments_by_name(self):
        session = Session()
        session.tell(teller="ana", sentence=("at", "a"))
        session.tell(sentence=("then", "b"), teller="ana")
        self.assertEqual(session.relation(a="a", b="b"), "before")
        self.assertEqual(session.explain_relation(b="b", a="a"), ("before", (("ana", 1),)))


class TellTests(unittest.TestCase):
    def setUp(self):
        self.session = told(("ana", "at", "a"), ("ana", "then", "b"), ("bo", "at", "b"), ("bo", "then", "c"))
        self.before = state(self.session)

    def refuse(self, error, field, value, teller, sentence):
        """The sentence is refused, and changes nothing: neither what the session answers nor what undo takes back."""
        with self.subTest(teller=teller, sentence=sentence):
            if field is None:
                assert_plain(self, error, self.session.tell, teller, sentence)
            else:
                assert_raises(self, error, field, value, self.session.tell, teller, sentence)
            self.assertEqual(state(self.session), self.before)
            twin = self.session.copy()
            twin.undo()
            self.assertEqual(twin.tellers(), told(("ana", "at", "a"), ("ana", "then", "b"), ("bo", "at", "b")).tellers())

    def test_names_that_are_no_names(self):
        for name in BAD_NAMES:
            self.refuse(InvalidName, "name", name, name, ("at", "a"))

    def test_sentences_that_are_no_sentences(self):
        for sentence in BAD_SENTENCES:
            self.refuse(InvalidTale, "problem", ("sentence", 2), "bo", sentence)
            self.refuse(InvalidTale, "problem", ("sentence", 0), "cy", sentence)

    def test_the_first_sentence_of_a_teller_is_told_by_at(self):
        for word in WORDS[1:]:
            self.refuse(InvalidTale, "problem", ("sentence", 0), "cy", (word, "a"))
        self.session.tell("cy", ("at", "a"))
        self.assertEqual(len(self.session), 5)

    def test_a_cycle_in_the_tale_of_one_teller(self):
        self.refuse(InvalidTale, "problem", ("cycle", 2), "bo", ("then", "b"))
        self.refuse(InvalidTale, "problem", ("cycle", 2), "ana", ("with", "a"))
        self.refuse(InvalidTale, "problem", ("cycle", 2), "ana", ("later", "b"))

    def test_conflicts(self):
        self.refuse(Conflict, "ring", (("ana", 1), ("bo", 1), ("bo", 2)), "bo", ("then", "a"))
        self.session.tell("bo", ("at", "b"))
        assert_raises(self, Conflict, "ring", (("ana", 1), ("bo", 3)), self.session.tell, "bo", ("with", "a"))
        self.assertEqual((len(self.session), self.session.news()), (5, []))

    def test_a_seventh_teller(self):
        session = Session()
        for name in TELLER_NAMES:
            session.tell(name, ("at", "a"))
        before = state(session)
        for name in ("aa", "c", "zzz"):
            assert_plain(self, TooManyTellers, session.tell, name, ("at", "a"))
        self.assertEqual(state(session), before)
        session.tell("ana", ("then", "b"))
        self.assertEqual((len(session), session.news()), (7, [("a", "b")]))

    def test_a_teller_of_whom_nothing_is_kept_does_not_count(self):
        session = told(*[(name, "at", "a") for name in TELLER_NAMES])
        session.undo()
        session.tell("c", ("at", "b"))
        self.assertEqual([name for name, _ in session.tellers()], ["ana", "b", "bo", "c", "cy", "dee"])
        assert_plain(self, TooManyTellers, session.tell, "zz", ("at", "a"))

    def test_refused_tellers_do_not_count(self):
        session = told(*[(name, "at", "a") for name in TELLER_NAMES[:5]])
        assert_raises(self, InvalidTale, "problem", ("sentence", 0), session.tell, "x", ("then", "a"))
        session.tell("y", ("at", "a"))
        self.assertEqual(len(session.tellers()), 6)

    def test_two_errors_at_once(self):
        for sentence in (None, ("then", "a")):
            self.refuse(InvalidName, "name", "Bo", "Bo", sentence)
            self.refuse(InvalidName, "name", None, None, sentence)
        self.refuse(InvalidTale, "problem", ("sentence", 2), "bo", ("then", None))
        session = told(*[(name, "at", "a") for name in TELLER_NAMES])
        assert_raises(self, InvalidTale, "problem", ("sentence", 0), session.tell, "x", ("then", "a"))
        assert_raises(self, InvalidName, "name", "X", session.tell, "X", ("at", "a"))
        assert_plain(self, TooManyTellers, session.tell, "x", ("at", "a"))

    def test_a_cycle_comes_before_a_conflict(self):
        session = told(("ana", "at", "a"), ("ana", "then", "b"), ("bo", "at", "b"), ("bo", "then", "c"))
        # With this sentence bo's tale is inconsistent, and so are both tales together.
        session.tell("bo", ("at", "c"))
        assert_raises(self, InvalidTale, "problem", ("cycle", 3), session.tell, "bo", ("with", "b"))

    def test_the_ring_is_that_of_conflict(self):
        for tellers in drawn_tellers(463, 60, 7):
            session = Session()
            for k, (name, tale) in enumerate(tellers):
                for i, sentence in enumerate(tale):
                    now = tellers[:k] + ((name, tale[:i + 1]),)
                    now = tuple((other, sentences) for other, sentences in now if sentences)
                    if conflict(now) is not None:
                        assert_raises(self, Conflict, "ring", conflict(now), session.tell, name, sentence)
                        break
                    session.tell(name, sentence)
                else:
                    continue
                break
            else:
                self.assertEqual(session.tale(), join(tellers))
                self.assertEqual(session.tellers(), tuple(item for item in tellers if item[1]))


class UndoTests(unittest.TestCase):
    def test_the_sentence_that_was_told_last(self):
        session = told(("bo", "at", "b"), ("ana", "at", "a"), ("bo", "then", "c"), ("ana", "then", "b"))
        session.undo()
        self.assertEqual(session.tellers(), (("ana", (("at", "a"),)), ("bo", (("at", "b"), ("then", "c")))))
        session.undo()
        self.assertEqual(session.tellers(), (("ana", (("at", "a"),)), ("bo", (("at", "b"),))))
        session.undo()
        self.assertEqual((session.tellers(), len(session)), ((("bo", (("at", "b"),)),), 1))
        session.undo()
        self.assertEqual(state(session), ((), (), 0, [], [], []))
        assert_plain(self, NothingToUndo, session.undo)

    def test_moments_are_unknown_again(self):
        session = told(("ana", "at", "a"), ("ana", "then", "b"))
        session.undo()
        assert_raises(self, UnknownMoment, "name", "b", session.relation, "a", "b")

    def test_telling_goes_on_behind_undo(self):
        session = told(("ana", "at", "a"), ("ana", "then", "b"))
        session.undo()
        session.tell("ana", ("back", "b"))
        self.assertEqual((session.relation("a", "b"), session.news()), ("after", [("b", "a")]))


class NewsTests(unittest.TestCase):
    def test_pairs_ascend(self):
        session = told(*[("ana", *sentence) for sentence in chain("then", "zy")], ("bo", "at", "y"), ("bo", "with", "m"))
        self.assertEqual(session.news(), [("z", "m")])
        session.tell("bo", ("then", "b"))
        self.assertEqual(session.news(), [("m", "b"), ("y", "b"), ("z", "b")])
        session.tell("bo", ("earlier", "c"))
        self.assertEqual(session.news(), [("c", "b")])

    def test_pairs_ascend_over_groups_of_several_moments(self):
        session = told(
            ("ana", "at", "a"), ("ana", "with", "z"), ("ana", "then", "m"), ("bo", "at", "b"), ("bo", "then", "m"),
            ("bo", "then", "c"),
        )
        self.assertEqual(session.news(), [("a", "c"), ("b", "c"), ("m", "c"), ("z", "c")])

    def test_no_news(self):
        session = told(("ana", "at", "a"))
        self.assertEqual(session.news(), [])
        session.tell("ana", ("with", "b"))
        self.assertEqual(session.news(), [])
        session.tell("ana", ("then", "c"))
        self.assertEqual(session.news(), [("a", "c"), ("b", "c")])
        session.tell("bo", ("at", "a"))
        self.assertEqual(session.news(), [])
        session.tell("bo", ("then", "c"))
        self.assertEqual(session.news(), [])

    def test_news_of_what_both_tell(self):
        session = told(("ana", "at", "a"), ("ana", "then", "b"), ("bo", "at", "b"), ("bo", "then", "c"))
        self.assertEqual(session.news(), [("a", "c"), ("b", "c")])

    def test_behind_undo(self):
        session = told(("ana", "at", "a"), ("ana", "then", "b"), ("ana", "then", "c"))
        session.undo()
        self.assertEqual(session.news(), [])
        session.undo()
        self.assertEqual(session.news(), [])
        session.tell("ana", ("then", "c"))
        self.assertEqual(session.news(), [("a", "c")])

    def test_a_refused_sentence_and_a_refused_undo_leave_the_news(self):
        session = told(("ana", "at", "a"), ("ana", "then", "b"))
        assert_raises(self, InvalidTale, "problem", ("cycle", 2), session.tell, "ana", ("then", "a"))
        self.assertEqual(session.news(), [("a", "b")])
        self.assertEqual(session.news(), [("a", "b")])


class CopyTests(unittest.TestCase):
    def test_news_and_undo_on_a_copy(self):
        session = told(("ana", "at", "a"), ("ana", "then", "b"))
        twin = session.copy()
        self.assertIs(type(twin), Session)
        self.assertIsNot(twin, session)
        self.assertEqual(state(twin), state(session))
        self.assertEqual(twin.news(), [("a", "b")])
        twin.undo()
        self.assertEqual((twin.news(), session.news()), ([], [("a", "b")]))
        self.assertEqual((len(twin), len(session)), (1, 2))
        self.assertEqual(twin.copy().news(), [])

    def test_copies_go_on_alone(self):
        session = told(("ana", "at", "a"))
        twin = session.copy()
        twin.tell("bo", ("at", "b"))
        session.tell("ana", ("then", "c"))
        self.assertEqual(twin.tellers(), (("ana", (("at", "a"),)), ("bo", (("at", "b"),))))
        self.assertEqual(session.tellers(), (("ana", (("at", "a"), ("then", "c"))),))
        twin.undo()
        twin.undo()
        assert_plain(self, NothingToUndo, twin.undo)
        self.assertEqual(len(session), 2)

    def test_a_copy_takes_back_in_the_order_of_telling(self):
        session = told(("bo", "at", "b"), ("ana", "at", "a"), ("bo", "then", "c"))
        twin = session.copy()
        for _ in range(3):
            twin.undo()
            session.undo()
            self.assertEqual(twin.tellers(), session.tellers())

    def test_a_copy_of_an_empty_session(self):
        twin = Session().copy()
        self.assertEqual(state(twin), ((), (), 0, [], [], []))
        assert_plain(self, NothingToUndo, twin.undo)


class EqualTests(unittest.TestCase):
    def test_equal_tellers(self):
        one = told(("ana", "at", "a"), ("bo", "at", "b"))
        other = told(("bo", "at", "b"), ("ana", "at", "a"))
        self.assertTrue(one == other)
        self.assertFalse(one != other)
        self.assertTrue(Session() == Session())
        self.assertEqual(one, one.copy())

    def test_what_was_told_in_between_does_not_count(self):
        one, other = told(("ana", "at", "a")), told(("ana", "at", "a"), ("ana", "then", "b"))
        self.assertFalse(one == other)
        other.undo()
        self.assertTrue(one == other)
        self.assertFalse(one != other)

    def test_other_tellers(self):
        one = told(("ana", "at", "a"))
        for other in (told(("ana", "at", "b")), told(("bo", "at", "a")), Session(), told(("ana", "at", "a"), ("ana", "at", "a"))):
            self.assertFalse(one == other)
            self.assertTrue(one != other)

    def test_anything_else_is_unequal(self):
        session = told(("ana", "at", "a"))
        for value in (*ANYTHING, session.tellers(), [], object(), Session, 1):
            self.assertFalse(session == value)
            self.assertTrue(session != value)
            self.assertFalse(value == session)
        self.assertFalse(Session() == ())

    def test_len(self):
        session = Session()
        for many in range(5):
            self.assertEqual(len(session), many)
            session.tell("ana", ("at", "a"))
        session.undo()
        self.assertEqual(len(session), 4)


if __name__ == "__main__":
    unittest.main()
