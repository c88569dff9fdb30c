"""Point 4 for points 13 to 16: tellers, settlers, sessions and short tales at the limits."""

import random
import unittest

from backthen import settler, short, tellers
from backthen.errors import Conflict, InvalidTale, NoConflict, NotForest, TooLarge
from backthen.session import Session
from backthen.settler import Settler
from backthen.tales import check_tale
from tests.helper import (
    TELLER_NAMES, assert_plain, assert_quick, assert_raises, chain, drawn_forests, joined, layers, limit_tales, many_names,
    padded, plain_consistent, plain_moments, zigzag,
)

NAMES = many_names(60)
SINGLES = tuple((name,) for name in NAMES)


def ring_of_all():
    """Six tellers whose only ring goes through all sixty moments."""
    walks = [chain("then", NAMES[10 * k:10 * k + 11]) for k in range(5)] + [chain("then", NAMES[50:] + NAMES[:1])]
    return tuple(zip(TELLER_NAMES, walks))


def ring_of_withs():
    """The like with "with" sentences alone, but for the last one."""
    told = []
    for name, tale in ring_of_all():
        steps = zip(tale, tale[1:])
        told.append((name, tuple(s for (_, one), (_, other) in steps for s in (("at", one), ("with", other)))))
    return (*told[:5], (told[5][0], told[5][1][:-1] + (("then", NAMES[0]),)))


def against_each_other():
    """Six tellers of whom three go forward over the same moments and three go back."""
    return tuple((name, chain(("then", "back")[k % 2], NAMES[:33])) for k, name in enumerate(TELLER_NAMES))


def drawn_crowd(seed, torn):
    """Six tellers who tell of drawn pairs of sixty moments which is first, some of them wrongly."""
    source = random.Random(seed)
    crowd = []
    for name in TELLER_NAMES:
        tale = ()
        while len(tale) < 32:
            one, other = sorted(source.sample(NAMES, 2))
            pair = (other, one) if source.random() < torn else (one, other)
            told = tale + (("at", pair[0]), ("later", pair[1]))
            tale = told if plain_consistent(told) else tale
        crowd.append((name, tale))
    return tuple(crowd)


def crowds():
    """Tuples of six tellers of 198 sentences in all, by name."""
    told = {"ring": ring_of_all(), "ring of withs": ring_of_withs(), "against each other": against_each_other()}
    told["line"] = ring_of_all()[:5] + (("zz", chain("then", NAMES[50:])),)
    for seed in (601, 602):
        told[f"agreed {seed}"] = drawn_crowd(seed, 0)
        told[f"torn {seed}"] = drawn_crowd(seed, 0.25)
    return {kind: tuple((name, padded(tale, 33)) for name, tale in crowd) for kind, crowd in told.items()}


class TellerTests(unittest.TestCase):
    def test_every_call_is_quick(self):
        conflicts = 0
        for name, crowd in crowds().items():
            with self.subTest(name):
                self.assertEqual((len(crowd), len(joined(crowd))), (6, 198))
                names = plain_moments(joined(crowd))
                self.assertIsNone(assert_quick(self, tellers.check_tellers, crowd))
                ring = assert_quick(self, tellers.conflict, crowd)
                gone = assert_quick(self, tellers.dismissed, crowd)
                self.assertEqual(ring is None, gone == ())
                for a, b in ((names[0], names[-1]), (names[-1], names[0]), (names[3], names[4])):
                    assert_quick(self, tellers.backers, crowd, a, b)
                if ring is None:
                    self.assertEqual(assert_quick(self, tellers.join, crowd), joined(crowd))
                    assert_plain(self, NoConflict, tellers.suspects, crowd)
                else:
                    conflicts += 1
                    self.assertIsNone(assert_quick(self, tellers.check_ring, crowd, ring))
                    self.assertLessEqual(set(assert_quick(self, tellers.suspects, crowd)), set(ring))
                    assert_raises(self, Conflict, "ring", ring, tellers.join, crowd)
        self.assertEqual(conflicts, 5)

    def test_what_is_known_of_some(self):
        told = crowds()
        self.assertEqual(tellers.conflict(told["against each other"]), (("ana", 1), ("b", 1)))
        self.assertEqual(tellers.dismissed(told["against each other"]), ("ana", "bo", "dee"))
        self.assertEqual(tellers.suspects(told["against each other"]), [])
        ring = tuple((name, index) for name, tale in ring_of_withs() for index in range(1, len(tale), 2))
        self.assertEqual(tellers.conflict(told["ring of withs"]), ring)
        self.assertEqual(tellers.suspects(told["ring of withs"]), list(ring))

    def test_a_ring_through_all_moments(self):
        steps = tuple((name, index) for name, tale in ring_of_all() for index in range(1, len(tale)))
        self.assertEqual(len(steps), 60)
        self.assertEqual(assert_quick(self, tellers.conflict, ring_of_all()), steps)
        self.assertEqual(assert_quick(self, tellers.suspects, ring_of_all()), list(steps))
        self.assertEqual(tellers.dismissed(ring_of_all()), ("ana",))

    def test_backers_of_all_tellers(self):
        crowd = ring_of_all()[:5] + (("zz", chain("then", NAMES[50:])),)
        self.assertEqual(assert_quick(self, tellers.backers, crowd, NAMES[0], NAMES[59]), TELLER_NAMES)
        self.assertIsNone(assert_quick(self, tellers.backers, crowd, NAMES[59], NAMES[0]))

    def test_things_of_500_items(self):
        crowd = (("ana", (("at", "a"), ("then", "b"))), ("bo", (("at", "b"), ("then", "a"))))
        ring = (("ana", 1), ("bo", 1)) * 250
        self.assertIsNone(assert_quick(self, tellers.check_ring, crowd, ring))
        self.assertEqual(tellers.check_ring(crowd, ring[:499]), ("end",))
        self.assertEqual(tellers.check_ring(crowd, ring[:499] + (None,)), ("step", 499))
        self.assertEqual(assert_quick(self, tellers.check_tellers, (("a", ()),) * 500), ("form",))
        long = (("ana", chain("then", many_names(499)) + (None,)),)
        self.assertEqual(assert_quick(self, tellers.check_tellers, long), ("tale", 0, ("sentence", 499)))


class SettlerTests(unittest.TestCase):
    def test_eight_groups(self):
        wide = tuple(s for k in range(8) for s in chain("with", NAMES[k::8]))
        for tale in (padded(wide, 200), padded(chain("at", NAMES[:8]), 200), padded(layers([NAMES[:4], NAMES[4:8]]), 200)):
            asked = assert_quick(self, Settler, tale)
            total = assert_quick(self, asked.remaining)
            while asked.question() is not None:
                assert_quick(self, asked.answer, assert_quick(self, asked.question)[0])
                self.assertLess(assert_quick(self, asked.remaining), total)
                total = asked.remaining()
            line = assert_quick(self, asked.result)
            self.assertEqual(assert_quick(self, settler.settle, tale, line), asked.answers())

    def test_too_large(self):
        for tale in limit_tales().values():
            if tale != limit_tales()["together"]:
                assert_plain(self, TooLarge, Settler, tale)


class SessionTests(unittest.TestCase):
    def test_sessions_of_198_sentences(self):
        for kind, crowd in crowds().items():
            with self.subTest(kind):
                session = Session()
                for name, tale in crowd:
                    for sentence in tale:
                        self.tell(session, name, sentence)
                names = plain_moments(session.tale())
                found = assert_quick(self, session.explain_relation, names[0], names[-1])
                self.assertEqual(found[0], assert_quick(self, session.relation, names[0], names[-1]))
                twin = assert_quick(self, session.copy)
                self.assertEqual((twin, twin.news()), (session, assert_quick(self, session.news)))
                while len(twin) > 0:
                    assert_quick(self, twin.undo)
                self.assertEqual(twin.tellers(), ())

    def tell(self, session, name, sentence):
        """Tell the sentence, or find that it is refused for the ring of the tellers with it."""
        told = dict(session.tellers())
        told[name] = told.get(name, ()) + (sentence,)
        try:
            assert_quick(self, session.tell, name, sentence)
        except Conflict as error:
            self.assertEqual(error.ring, tellers.conflict(tuple(sorted(told.items()))))
        except InvalidTale as error:
            self.assertEqual(error.problem, check_tale(told[name]))


class ShortTests(unittest.TestCase):
    def test_sixty_moments(self):
        for tale, length in (
            (chain("then", NAMES), 60), (chain("back", NAMES), 60), (chain("later", NAMES), 60), (zigzag(NAMES), 60),
            (chain("with", NAMES), 60), (chain("at", NAMES), 60),
            (tuple(s for name in NAMES[1:] for s in (("at", name), ("then", NAMES[0]))), 60),
        ):
            told = assert_quick(self, short.shortest_tale, padded(tale, 200))
            self.assertEqual((len(told), assert_quick(self, short.shortest_length, tale)), (length, length))
            self.assertIsNone(assert_quick(self, short.check_same_order, tale, told))

    def test_sixty_moments_around_one(self):
        # Each end is a group of two moments: 29 ends take 15 walks.
        tale = (("at", NAMES[0]),)
        for k in range(1, 30):
            tale += (("at", NAMES[0]), ("then", NAMES[k]), ("with", NAMES[k + 29]))
        self.assertEqual(assert_quick(self, short.shortest_length, tale), 29 + 29 + 15)
        self.assertEqual(len(short.shortest_tale(tale)), 73)
        self.assertIsNone(short.check_same_order(tale, short.shortest_tale(tale)))

    def test_drawn_forests(self):
        for tale in drawn_forests(611, (60, 60, 60)) + drawn_forests(612, (60, 60), ("later", "earlier", "with")):
            told = assert_quick(self, short.shortest_tale, tale)
            self.assertIsNone(assert_quick(self, short.check_same_order, tale, told))
            self.assertLessEqual(len(told), len(tale))
            self.assertEqual(short.shortest_length(told), len(told))

    def test_no_forests(self):
        for name in ("layers", "drawn"):
            for call in (short.shortest_tale, short.shortest_length):
                assert_plain(self, NotForest, call, limit_tales()[name])
        told = limit_tales()
        self.assertIsNone(assert_quick(self, short.check_same_order, told["layers"], told["layers"]))
        self.assertEqual(short.check_same_order(told["forward"], told["backward"]), ("cover", SINGLES[0], SINGLES[1]))


if __name__ == "__main__":
    unittest.main()
