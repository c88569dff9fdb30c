"""Point 16: shortest_length, shortest_tale and check_same_order."""

import itertools
import random
import unittest

from backthen.errors import InvalidTale, NotForest
from backthen.orders import covers, cycle_rank, groups
from backthen.short import check_same_order, shortest_length, shortest_tale
from backthen.tales import check_tale
from tests.helper import (
    ANYTHING, BAD_TALES, WORDS, assert_plain, assert_raises, chain, crown, drawn_forests, drawn_tales, layers, many_names,
    plain_components, plain_covers, plain_groups, plain_moments, zigzag,
)

STAR = (("at", "a"), ("then", "b"), ("at", "c"), ("then", "b"), ("at", "d"), ("then", "b"), ("at", "e"), ("then", "b"))


def same_order(one, other):
    return (plain_groups(one), plain_covers(one)) == (plain_groups(other), plain_covers(other))


def closing(before):
    """All pairs that follow from pairs (a, b, strict), or None if a moment is before itself."""
    while True:
        more = {(a, d, s or t) for a, b, s in before for c, d, t in before if b == c} | before
        if any(a == b and strict for a, b, strict in more):
            return None
        # That a moment is at the same time as itself says nothing.
        more = {(a, b, strict) for a, b, strict in more if a != b}
        if more == before:
            return frozenset(more)
        before = more


def shortest_tales(names):
    """For each order of some of the names one of the shortest tales that tell it.

    All tales are told sentence by sentence. Of tales of the same order that stand at the same moment one goes on.
    """
    known, following = {}, {}
    tales = {(frozenset(), frozenset((name,)), name): (("at", name),) for name in names}
    seen = set(tales)
    while tales:
        longer = {}
        for (before, named, stand), tale in tales.items():
            known.setdefault((before, named), tale)
            for word, moment in itertools.product(WORDS, names):
                told = {
                    "at": (), "with": ((stand, moment, False), (moment, stand, False)),
                    "then": ((stand, moment, True),), "later": ((stand, moment, True),),
                    "back": ((moment, stand, True),), "earlier": ((moment, stand, True),),
                }[word]
                if (before, told) not in following:
                    following[before, told] = closing(set(before) | set(told)) if told else before
                now = following[before, told]
                if now is not None:
                    at = moment if word in ("at", "then", "back") else stand
                    state = (now, named | {moment}, at)
                    if state not in seen:
                        seen.add(state)
                        longer[state] = tale + ((word, moment),)
        tales = longer
    return known


def plain_length(tale):
    """The least number of sentences, by trying what can be told next until all facts of a small order are told.

    The facts are the covers, the moments of each group beyond the first one, and the isolated groups.
    """
    found, pairs = plain_groups(tale), plain_covers(tale)
    linked = {group for pair in pairs for group in pair}
    facts = list(pairs)
    for group in found:
        facts += [(group, k) for k in range(1, len(group))] + [(group, 0)] * (group not in linked)
    place = {fact: 1 << i for i, fact in enumerate(facts)}
    full = (1 << len(facts)) - 1

    def visited(told, group):
        return told | place.get((group, 0), 0)

    states, length = {(visited(0, group), group) for group in found}, 1
    seen = set(states)
    while full and not any(told == full for told, _ in states):
        longer = set()
        for told, stand in states:
            longer |= {(visited(told, group), group) for group in found}
            for k in range(1, len(stand)):
                if k == 1 or told & place[stand, k - 1]:
                    longer.add((told | place[stand, k], stand))
            for pair in pairs:
                if stand in pair:
                    goal = pair[0] if stand == pair[1] else pair[1]
                    longer |= {(told | place[pair], stand), (told | place[pair], goal)}
        states = longer - seen
        seen |= states
        length += 1
    return length if found else 0


def drawn_small_forests(seed, many):
    """Forest tales of two to eight groups, some of them of several moments."""
    source = random.Random(seed)
    tales = []
    for tale in drawn_forests(seed, [source.randint(2, 8) for _ in range(many)]):
        for moment in plain_moments(tale):
            if source.random() < 0.3:
                tale += (("at", moment), ("with", "x" + moment))
                if source.random() < 0.2:
                    tale += (("with", "a" + moment),)
        tales.append(tale)
    return tales


class ShortTests(unittest.TestCase):
    def check(self, tale, length):
        """The tale that is returned has that length and the same order."""
        told = shortest_tale(tale)
        self.assertEqual((shortest_length(tale), len(told)), (length, length), tale)
        self.assertEqual((type(told), check_tale(told)), (tuple, None))
        self.assertEqual((groups(told), covers(told)), (groups(tale), covers(tale)), tale)
        self.assertIsNone(check_same_order(tale, told))

    def test_examples(self):
        self.assertEqual(shortest_length(STAR), 5)
        self.assertEqual(len(shortest_tale(STAR)), 5)
        self.check(STAR, 5)

    def test_few_groups(self):
        self.check((), 0)
        self.check((("at", "a"),), 1)
        self.check((("at", "a"),) * 5, 1)
        self.check(chain("with", "abc"), 3)
        self.check(chain("then", "ab"), 2)
        self.check(chain("back", "abc"), 3)
        self.check(zigzag("abcd"), 4)

    def test_isolated_groups(self):
        self.check(chain("at", "abcd"), 4)
        self.check((("at", "a"), ("with", "b"), ("at", "c"), ("with", "d"), ("at", "e")), 5)

    def test_several_components(self):
        self.check(chain("then", "abc") + chain("then", "xyz") + chain("at", "m"), 7)

    def test_a_walk_is_saved_where_mentions_do(self):
        self.check((("at", "m"), ("earlier", "a"), ("earlier", "b"), ("later", "c"), ("later", "d")), 5)
        self.check((("at", "a"), ("then", "m"), ("at", "b"), ("then", "m"), ("then", "c"), ("at", "m"), ("then", "d")), 5)
        # Each b is told at its c, and all of the c along one walk.
        self.check(chain("then", ("ca", "cb", "cc")) + tuple(s for c in "abc" for s in (("at", "c" + c), ("later", "b" + c))), 6)

    def test_groups_of_several_moments_are_visited(self):
        ends = (("at", "m"), ("later", "a"), ("later", "b"), ("later", "c"), ("later", "d"))
        doubled = ends
        for k, length in enumerate((6, 7, 9, 10)):
            doubled += (("at", "abcd"[k]), ("with", "x" + "abcd"[k]))
            self.assertEqual(plain_length(doubled), length)
            self.check(doubled, length)

    def test_walks_may_share_a_group(self):
        # Four ends that all must be visited: two walks cross in the middle.
        tale = (("at", "m"),)
        for name in "abcd":
            tale += (("at", "m"), ("then", name), ("with", "x" + name))
        self.check(tale, 4 + 4 + 2)
        self.check(tale + (("at", "m"), ("with", "n")), 4 + 5 + 2)
        legs = ()
        for name in "abcd":
            legs += (("at", "m"), ("then", name), ("then", "x" + name))
        self.check(legs, 8 + 2)

    def test_all_orders_of_four_moments_against_all_tales(self):
        forests = 0
        for tale in shortest_tales("bacd").values():
            if cycle_rank(tale) == 0:
                forests += 1
                self.check(tale, len(tale))
                longer = tuple(s for g, h in covers(tale) for s in (("at", h[0]), ("earlier", g[0])))
                longer += tuple((word, m) for g in groups(tale) for word, m in [("at", g[0])] + [("with", m) for m in g])
                self.check(longer, len(tale))
            else:
                assert_plain(self, NotForest, shortest_length, tale)
        self.assertGreater(forests, 400)

    def test_drawn_forests(self):
        walks = set()
        for tale in drawn_small_forests(481, 120) + drawn_small_forests(482, 60):
            length = plain_length(tale)
            self.check(tale, length)
            walks.add(length - len(plain_covers(tale)) - len(plain_moments(tale)) + len(plain_groups(tale)))
        self.assertLessEqual({1, 2, 3, 4}, walks)

    def test_drawn_tales(self):
        forests = 0
        for tale in drawn_tales(485, 120, 12):
            if len(plain_covers(tale)) == len(plain_groups(tale)) - len(plain_components(tale)):
                forests += 1
                self.check(tale, plain_length(tale))
                self.assertLessEqual(shortest_length(tale), len(tale))
            else:
                assert_plain(self, NotForest, shortest_length, tale)
                assert_plain(self, NotForest, shortest_tale, tale)
        self.assertGreater(forests, 50)

    def test_stars_of_eight_groups(self):
        names = many_names(8)
        for word in ("later", "earlier"):
            self.check(chain(word, names), 8)
            doubled = chain(word, names) + tuple(s for name in names[1:] for s in (("at", name), ("with", "x" + name)))
            self.check(doubled, 7 + 7 + 4)
            self.assertEqual(plain_length(doubled), 18)

    def test_kinds(self):
        self.assertIs(type(shortest_length(())), int)
        self.assertEqual(shortest_tale(()), ())
        self.assertEqual({type(sentence) for sentence in shortest_tale(STAR)}, {tuple})

    def test_not_a_forest(self):
        for tale in (crown("abcd"), crown("abcde"), layers(["ab", "cd", "ef"]), layers(["a", "bc", "d"])):
            assert_plain(self, NotForest, shortest_length, tale)
            assert_plain(self, NotForest, shortest_tale, tale)

    def test_a_cycle_of_relations_that_is_none_of_covers(self):
        self.check(chain("then", "abc") + (("at", "a"), ("later", "c")), 3)


class OrderTests(unittest.TestCase):
    def check(self, one, other, problem):
        with self.subTest(one=one, other=other):
            self.assertEqual(check_same_order(one, other), problem)
            self.assertEqual(check_same_order(other, one), problem)

    def test_example(self):
        self.check((("at", "a"), ("then", "b")), (("at", "b"), ("back", "a")), None)

    def test_the_same_order(self):
        self.check((), (), None)
        self.check(STAR, STAR, None)
        self.check(chain("with", "abc"), chain("with", "cba"), None)
        self.check(chain("then", "abc"), chain("back", "cba") + (("at", "a"), ("later", "c")), None)
        self.check(chain("at", "ab"), chain("at", "baab"), None)

    def test_groups(self):
        self.check((), (("at", "a"),), ("group", ("a",)))
        self.check((("at", "a"),), (("at", "b"),), ("group", ("a",)))
        self.check(chain("at", "ab"), chain("with", "ab"), ("group", ("a",)))
        self.check(chain("at", "ac"), chain("at", "abc"), ("group", ("b",)))
        self.check(chain("with", "ab") + chain("at", "c"), chain("with", "abc"), ("group", ("a", "b")))
        self.check(chain("at", "bz"), chain("at", "z") + chain("with", "ba"), ("group", ("a", "b")))

    def test_covers(self):
        self.check(chain("then", "ab"), chain("at", "ab"), ("cover", ("a",), ("b",)))
        self.check(chain("then", "ab"), chain("back", "ab"), ("cover", ("a",), ("b",)))
        self.check(chain("then", "abc"), chain("then", "acb"), ("cover", ("a",), ("b",)))
        self.check(chain("then", "abc"), chain("then", "ab") + chain("then", "ac"), ("cover", ("a",), ("c",)))
        self.check(chain("then", "bca"), chain("then", "cba"), ("cover", ("b",), ("a",)))

    def test_a_group_comes_before_a_cover(self):
        self.check(chain("then", "ab"), chain("at", "abz"), ("group", ("z",)))
        self.check(chain("then", "ab"), chain("then", "ab") + (("with", "c"),), ("group", ("b",)))
        self.check(chain("then", "ab"), chain("then", "abz"), ("group", ("z",)))

    def test_drawn_tales(self):
        source = random.Random(491)
        tales = drawn_tales(492, 150, 7, ("a", "b", "c"))
        same = 0
        for _ in range(1500):
            one, other = source.choice(tales), source.choice(tales)
            alone = sorted(set(plain_groups(one)) ^ set(plain_groups(other)))
            pairs = sorted(set(plain_covers(one)) ^ set(plain_covers(other)))
            problem = ("group", alone[0]) if alone else ("cover", *pairs[0]) if pairs else None
            self.assertEqual(check_same_order(one, other), problem, (one, other))
            self.assertEqual(problem is None, same_order(one, other))
            same += problem is None and one != other
        self.assertGreater(same, 20)

    def test_orders_that_are_no_forests(self):
        self.check(crown("abcd"), crown("abcd") + (("at", "a"),), None)
        self.check(crown("abcd"), layers(["ab", "c"]) + layers(["a", "d"]), ("cover", ("b",), ("d",)))


class ErrorTests(unittest.TestCase):
    def test_invalid_tales(self):
        for tale, problem in BAD_TALES:
            assert_raises(self, InvalidTale, "problem", problem, shortest_length, tale)
            assert_raises(self, InvalidTale, "problem", problem, shortest_tale, tale)
            assert_raises(self, InvalidTale, "problem", problem, check_same_order, tale, STAR)
            assert_raises(self, InvalidTale, "problem", problem, check_same_order, STAR, tale)

    def test_invalid_tale_comes_before_not_a_forest(self):
        tale = crown("abcd") + (("at", "c"), ("then", "a"))
        for call in (shortest_length, shortest_tale):
            assert_raises(self, InvalidTale, "problem", ("cycle", len(tale) - 1), call, tale)

    def test_one_comes_before_other(self):
        for one, problem in BAD_TALES:
            for other, _ in BAD_TALES:
                assert_raises(self, InvalidTale, "problem", problem, check_same_order, one, other)

    def test_anything(self):
        for thing in ANYTHING:
            if not isinstance(thing, tuple):
                assert_raises(self, InvalidTale, "problem", ("form",), shortest_tale, thing)
                assert_raises(self, InvalidTale, "problem", ("form",), check_same_order, thing, thing)
                assert_raises(self, InvalidTale, "problem", ("form",), check_same_order, (), thing)


if __name__ == "__main__":
    unittest.main()
