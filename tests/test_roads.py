"""Point 10: find_road, check_road and straight_tale."""

import itertools
import random
import unittest

from backthen.errors import InvalidTale, NoRoad
from backthen.orders import covers, groups
from backthen.roads import check_road, find_road, straight_tale
from tests.helper import (
    ANYTHING, BAD_TALES, all_tales, assert_plain, assert_raises, chain, drawn_pairs, drawn_tales, layers, many_names,
    plain_consistent, plain_covers, plain_forced, plain_groups, plain_precedence, zigzag,
)

TALE = (("at", "m"), ("earlier", "a"), ("earlier", "b"), ("then", "n"), ("later", "c"))
APART = (("at", "a"), ("then", "b"), ("at", "c"), ("then", "d"))
SMALL = ("b", "a", "ab", "z", "aa", "c")


def singles(letters):
    return tuple((letter,) for letter in letters)


def small_tales():
    """Drawn tales of a few groups, with and without roads."""
    source = random.Random(211)
    pairs = [drawn_pairs(source, SMALL, source.randint(3, 12)) for _ in range(80)]
    return drawn_tales(213, 150, 9, SMALL) + drawn_tales(214, 150, 14, SMALL[:5]) + pairs


def plain_roads(tale):
    """All roads of a small tale, by trying all tuples of groups."""
    pairs, found, forced = plain_precedence(tale), plain_groups(tale), plain_forced(tale)
    roads = []
    for many in range(len(found) + 1):
        for road in itertools.permutations(found, many):
            on_chain = all(pair in pairs for pair in zip(road, road[1:]))
            if on_chain and set(forced) <= set(road) and all(g in road or h in road for g, h in plain_covers(tale)):
                roads.append(road)
    return roads


def plain_find(tale):
    """The road that find_road must return, None if there is none."""
    roads = plain_roads(tale)
    for group in plain_groups(tale):
        roads = [road for road in roads if group not in road] or roads
    return roads[0] if roads else None


def plain_check_walk(tale, walk):
    if len(walk) % 2 == 0 or walk[0] != walk[-1]:
        return ("ends",)
    pairs, covered, forced = plain_precedence(tale), plain_covers(tale), plain_forced(tale)
    for i in range(1, len(walk)):
        one, other = walk[i - 1], walk[i]
        if i % 2 == 1:
            fits = one != other and (one, other) not in pairs and (other, one) not in pairs
        else:
            fits = (one, other) in covered or (other, one) in covered or (one == other and one in forced)
        if not fits:
            return ("walk", i)
    return None if walk[0] in [walk[i] for i in range(1, len(walk), 2)] else ("odd",)


def plain_check(tale, thing):
    """What check_road must return, read off the document line by line."""
    if not isinstance(thing, tuple) or len(thing) != 2 or not isinstance(thing[1], tuple):
        return ("form",)
    if thing[0] != "road" and thing[0] != "none":
        return ("form",)
    word, items = thing
    for i, item in enumerate(items):
        if item not in plain_groups(tale):
            return ("group", i)
    if word == "none":
        return plain_check_walk(tale, items)
    for i in range(len(items) - 1):
        if (items[i], items[i + 1]) not in plain_precedence(tale):
            return ("chain", i)
    for group in plain_forced(tale):
        if group not in items:
            return ("forced", group)
    for g, h in plain_covers(tale):
        if g not in items and h not in items:
            return ("cover", g, h)
    return None


def plain_straight(tale, road):
    """The straight tale along the road, read off the document line by line."""
    told = []
    for place, group in enumerate(road):
        told.append(("then" if place else "at", min(group)))
        for moment in sorted(group)[1:]:
            told.append(("with", moment))
        for h in plain_groups(tale):
            if (h, group) in plain_covers(tale) and h not in road:
                told.append(("earlier", h[0]))
        for h in plain_groups(tale):
            if (group, h) in plain_covers(tale) and h not in road:
                told.append(("later", h[0]))
    return tuple(told)


class FindTests(unittest.TestCase):
    def find(self, tale, road):
        with self.subTest(tale=tale):
            self.assertEqual(find_road(tale), ("road", road))

    def test_example(self):
        self.find(TALE, (("m",), ("n",)))

    def test_empty_tale(self):
        self.find((), ())

    def test_one_group(self):
        self.find((("at", "a"),), (("a",),))
        self.find((("at", "b"), ("with", "a")), (("a", "b"),))

    def test_isolated_groups(self):
        self.assertEqual(find_road((("at", "a"), ("at", "b")))[0], "none")
        self.assertEqual(find_road((("at", "a"), ("then", "b"), ("at", "c")))[0], "none")

    def test_groups_of_several_moments(self):
        line = (("at", "a"), ("with", "x"), ("then", "b"), ("then", "c"), ("with", "y"))
        self.find(line, (("a", "x"), ("c", "y")))
        self.find(line[:1] + line[2:4] + (("with", "y"),), (("b",), ("c", "y")))
        fork = (("at", "a"), ("later", "c"), ("then", "b"), ("with", "x"))
        self.find(fork, (("a",), ("b", "x")))
        self.assertEqual(find_road(fork + (("at", "c"), ("with", "y")))[0], "none")

    def test_groups_are_left_off_in_ascending_order(self):
        self.find(chain("then", "ab"), singles("b"))
        self.find(chain("then", "ba"), singles("b"))
        self.find(chain("then", "abc"), singles("b"))
        self.find(chain("then", "bac"), singles("bc"))
        self.find(chain("then", "cab"), singles("cb"))
        self.find(chain("then", "abcd"), singles("bd"))
        self.find(chain("then", "dcba"), singles("db"))
        self.find(chain("then", "acbd"), singles("cd"))

    def test_the_road_is_in_the_order_of_precedence(self):
        self.find(chain("then", "zyxwvu"), singles("zxv"))
        self.find(chain("back", "abcdef"), singles("fdb"))

    def test_the_least_group_may_stay_on_while_greater_ones_are_off(self):
        star = (("at", "a"), ("later", "b"), ("later", "c"))
        self.find(star, singles("a"))
        self.find((("at", "a"), ("earlier", "b"), ("earlier", "c")), singles("a"))
        self.find((("at", "a"), ("later", "b")), singles("b"))

    def test_kinds(self):
        for tale in (TALE, APART, ()):
            word, found = find_road(tale)
            self.assertEqual((type(word), type(found)), (str, tuple))
            self.assertLessEqual({type(group) for group in found}, {tuple})

    def test_walks(self):
        for tale in (
            APART, (("at", "a"), ("at", "b")), chain("at", "abc"), layers(["ab", "cd", "ef"]),
            (("at", "a"), ("with", "b"), ("at", "c"), ("with", "d")), zigzag("abcdef"),
        ):
            word, walk = find_road(tale)
            self.assertEqual((word, plain_check_walk(tale, walk)), ("none", None), tale)
            self.assertLessEqual(len(walk), 500)
            self.assertIn(walk[0], walk[1::2])

    def test_drawn_tales_against_all_sets_of_groups(self):
        told = {"road": 0, "none": 0}
        for tale in small_tales():
            road = plain_find(tale)
            word, found = find_road(tale)
            told[word] += 1
            if road is not None:
                self.assertEqual((word, found), ("road", road), tale)
            else:
                self.assertEqual((word, plain_check(tale, ("none", found))), ("none", None), tale)
                self.assertLessEqual(len(found), 500)
            self.assertIsNone(check_road(tale, (word, found)), tale)
        self.assertGreater(min(told.values()), 50)

    def test_all_short_tales(self):
        for tale in all_tales(4, ("b", "a", "c")):
            if plain_consistent(tale):
                road = plain_find(tale)
                found = find_road(tale)
                self.assertEqual(found[0], "none" if road is None else "road", tale)
                if road is not None:
                    self.assertEqual(found[1], road, tale)

    def test_walks_of_more_groups(self):
        source = random.Random(217)
        walks = 0
        for many in (8, 10, 12, 15, 20) * 4:
            names = many_names(many)
            tale = drawn_pairs(source, names, many * many // 3)
            word, found = find_road(tale)
            walks += word == "none"
            self.assertIsNone(plain_check(tale, (word, found)), tale)
        self.assertGreater(walks, 5)


class CheckTests(unittest.TestCase):
    def check(self, tale, thing, problem):
        with self.subTest(tale=tale, thing=thing):
            self.assertEqual(check_road(tale, thing), problem)
            self.assertEqual(plain_check(tale, thing), problem)

    def test_example(self):
        self.check(APART, ("road", (("a",),)), ("cover", ("c",), ("d",)))

    def test_form(self):
        good = (("m",), ("n",))
        for thing in (
            *ANYTHING, ["road", good], ("road", list(good)), ("road",), ("road", good, ()), ("Road", good), (None, good),
            ("walk", good), ("none", None), ("none", []), ("road", "m"), (["road"], good), (("road",), good), (good, "road"),
            ("", ()), ("road", 1), ("none", good, good), (True, good), (1, ()), ((), ()),
        ):
            self.check(TALE, thing, ("form",))

    def test_groups(self):
        for item in (*ANYTHING, "m", ["m"], ("q",), ("m", "n"), (("m",),), ("m", None), 7):
            if item != ("a",):
                self.check(TALE, ("road", (item, ("n",))), ("group", 0))
                self.check(TALE, ("road", (("m",), item)), ("group", 1))
                self.check(TALE, ("none", (item,)), ("group", 0))
                self.check(TALE, ("none", (("m",), ("n",), item)), ("group", 2))
        pair = (("at", "b"), ("with", "a"), ("then", "c"))
        self.check(pair, ("road", (("b", "a"),)), ("group", 0))
        self.check(pair, ("road", (("a",),)), ("group", 0))
        self.check(pair, ("road", (("a", "b"),)), None)
        self.check((), ("road", (("a",),)), ("group", 0))
        self.check((), ("none", ((),)), ("group", 0))

    def test_chain(self):
        self.check(TALE, ("road", (("n",), ("m",))), ("chain", 0))
        self.check(TALE, ("road", (("m",), ("m",))), ("chain", 0))
        self.check(TALE, ("road", (("a",), ("m",), ("n",), ("n",))), ("chain", 2))
        self.check(TALE, ("road", (("a",), ("b",), ("m",), ("n",))), ("chain", 0))
        self.check(TALE, ("road", (("a",), ("m",), ("b",), ("n",))), ("chain", 1))
        self.check(TALE, ("road", (("m",), ("n",), ("m",))), ("chain", 1))

    def test_forced(self):
        tale = (("at", "b"), ("with", "c"), ("then", "d"), ("then", "a"), ("with", "e"))
        self.check(tale, ("road", ()), ("forced", ("a", "e")))
        self.check(tale, ("road", (("a", "e"),)), ("forced", ("b", "c")))
        self.check(tale, ("road", (("b", "c"), ("d",))), ("forced", ("a", "e")))
        self.check(tale, ("road", (("b", "c"), ("a", "e"))), None)
        self.check((("at", "b"), ("at", "a")), ("road", ()), ("forced", ("a",)))
        self.check((("at", "b"), ("at", "a")), ("road", (("a",),)), ("forced", ("b",)))
        self.check((("at", "a"), ("then", "c"), ("at", "b")), ("road", (("c",),)), ("forced", ("b",)))

    def test_cover(self):
        self.check(chain("then", "dcba"), ("road", ()), ("cover", ("b",), ("a",)))
        self.check(chain("then", "dcba"), ("road", singles("b")), ("cover", ("d",), ("c",)))
        self.check(chain("then", "dcba"), ("road", singles("ca")), None)
        self.check(TALE, ("road", (("n",),)), ("cover", ("a",), ("m",)))
        self.check(TALE, ("road", (("a",), ("n",))), ("cover", ("b",), ("m",)))
        self.check(TALE, ("road", (("m",),)), ("cover", ("n",), ("c",)))

    def test_precedence_beyond_covers_makes_no_demand(self):
        tale = chain("then", "abc") + (("at", "a"), ("later", "c"))
        self.check(tale, ("road", singles("b")), None)

    def test_other_roads(self):
        self.check(TALE, ("road", singles("amn")), None)
        self.check(TALE, ("road", singles("bmn")), None)
        self.check(TALE, ("road", singles("mnc")), None)
        self.check(TALE, ("road", singles("mn")), None)
        self.check((), ("road", ()), None)
        self.check(chain("then", "abc"), ("road", singles("ac")), None)
        self.check(chain("then", "abc"), ("road", singles("abc")), None)

    def test_ends(self):
        tale = chain("at", "ab")
        for walk in ("", "ab", "aa", "aabb", "abb", "aab", "abab", "ababb"):
            self.check(tale, ("none", singles(walk)), ("ends",))
        self.check((), ("none", ()), ("ends",))

    def test_steps(self):
        for walk, place in (
            ("aba", 1), ("aaa", 1), ("aca", 2), ("accaa", 2), ("acdca", 3), ("acdcaca", 3), ("acdaa", 4), ("acdaca", 4),
        ):
            walk += walk[0] * (1 - len(walk) % 2)
            self.check(APART, ("none", singles(walk)), ("walk", place))
        self.check(chain("at", "ab"), ("none", singles("aba")), ("walk", 2))
        self.check(chain("at", "ab"), ("none", singles("aabba")), ("walk", 1))

    def test_even_steps_take_covers_in_both_directions(self):
        self.check(APART, ("none", singles("acdabdcba")), None)
        self.check(APART, ("none", singles("acdabcdba")), None)
        line = chain("then", "abc") + chain("at", "d")
        self.check(line, ("none", singles("dabdd")), None)
        self.check(line, ("none", singles("dbadd")), None)

    def test_even_steps_take_no_precedence_beyond_covers(self):
        line = chain("then", "abc") + chain("at", "d")
        self.check(line, ("none", singles("dacdd")), ("walk", 2))
        self.check(line, ("none", singles("dcadd")), ("walk", 2))
        self.check(line, ("none", singles("cddac")), ("walk", 4))

    def test_forced_groups_step_to_themselves(self):
        pair = (("at", "a"), ("with", "c"), ("at", "b"), ("with", "d"))
        one, other = ("a", "c"), ("b", "d")
        self.check(pair, ("none", (one, other, other, one, one)), None)
        self.check(pair, ("none", (one, other, other, one, one, other, other, one, one)), None)
        self.check(pair, ("none", (one, one, one)), ("walk", 1))
        self.check(pair, ("none", (one, other, one)), ("walk", 2))
        self.check(APART, ("none", singles("accba")), ("walk", 2))

    def test_odd(self):
        tale = chain("at", "abc")
        self.check(tale, ("none", singles("a")), ("odd",))
        self.check(TALE, ("none", singles("m")), ("odd",))
        self.check(tale, ("none", singles("abbaa")), None)
        self.check((("at", "x"), ("then", "y"), ("at", "z")), ("none", singles("xzzyx")), ("odd",))
        self.check((("at", "x"), ("then", "y"), ("at", "z")), ("none", singles("zxyzz")), None)
        self.check(APART, ("none", singles("acdba")), ("odd",))

    def test_the_odd_place_may_be_anywhere(self):
        tale = chain("at", "abc")
        self.check(tale, ("none", singles("abbccaa")), None)
        self.check(tale, ("none", singles("abbaa")), None)
        self.check(tale, ("none", singles("abbaabbccaa")), None)

    def test_two_problems_at_once(self):
        self.check(TALE, ["road", (None,)], ("form",))
        self.check(TALE, ("road", (("n",), ("m",), None)), ("group", 2))
        self.check(TALE, ("road", (("n",), ("m",), ("n",), ("n",))), ("chain", 0))
        tale = chain("then", "abcd") + (("with", "e"),)
        self.check(tale, ("road", singles("ba")), ("chain", 0))
        self.check(tale, ("road", singles("a")), ("forced", ("d", "e")))
        self.check(tale, ("road", (("d", "e"),)), ("cover", ("a",), ("b",)))
        self.check(APART, ("none", (("q",), ("a",))), ("group", 0))
        self.check(APART, ("none", singles("ab")), ("ends",))
        self.check(APART, ("none", singles("abc")), ("ends",))
        self.check(APART, ("none", singles("acaba")), ("walk", 2))
        self.check(APART, ("none", singles("acacd") + singles("ba")), ("walk", 2))

    def test_a_road_and_a_walk_never_go_together(self):
        source = random.Random(219)
        accepted = 0
        for tale in small_tales() + drawn_tales(221, 150, 6, ("a", "b", "c")):
            found, roads = plain_groups(tale), plain_roads(tale)
            for road in roads[:20]:
                self.assertIsNone(check_road(tale, ("road", road)), (tale, road))
            if found:
                for _ in range(10):
                    walk = [source.choice(found) for _ in range(source.choice((1, 3, 5, 5, 7)))]
                    walk[-1] = walk[0]
                    thing = ("none", tuple(walk))
                    self.assertEqual(check_road(tale, thing), plain_check(tale, thing), (tale, thing))
                    accepted += plain_check(tale, thing) is None
                    self.assertFalse(roads and check_road(tale, thing) is None, (tale, thing))
        self.assertGreater(accepted, 10)

    def test_drawn_things(self):
        source = random.Random(223)
        for tale in small_tales():
            found = plain_groups(tale) + [None, ["a"], ("q",)]
            for word in ("road", "none"):
                for _ in range(5):
                    pool = found if source.random() < 0.3 else found[:-3] or found
                    thing = (word, tuple(source.choice(pool) for _ in range(source.randint(0, 5))))
                    self.assertEqual(check_road(tale, thing), plain_check(tale, thing), (tale, thing))

    def test_longer_walks_than_those_of_find_road(self):
        many = 0
        for tale in small_tales():
            word, walk = find_road(tale)
            if word == "none":
                many += 1
                # Twice around, and backwards: each step stands at a place of its own kind again.
                self.check(tale, ("none", walk + walk[1:]), None)
                self.check(tale, ("none", walk[:-1] * 3 + walk[:1]), None)
                self.check(tale, ("none", walk[2:] + walk[1:3]), plain_check_walk(tale, walk[2:] + walk[1:3]))
        self.assertGreater(many, 30)


class StraightTests(unittest.TestCase):
    def test_examples(self):
        self.assertEqual(straight_tale(TALE), TALE)
        assert_plain(self, NoRoad, straight_tale, APART)

    def test_empty_tale(self):
        self.assertEqual(straight_tale(()), ())

    def test_word_for_word(self):
        for tale, told in (
            ((("at", "b"), ("with", "c"), ("with", "a")), (("at", "a"), ("with", "b"), ("with", "c"))),
            (chain("then", "ab"), (("at", "b"), ("earlier", "a"))),
            (chain("then", "cba"), (("at", "b"), ("earlier", "c"), ("later", "a"))),
            (chain("back", "abcd"), (("at", "d"), ("later", "c"), ("then", "b"), ("earlier", "c"), ("later", "a"))),
            (
                (("at", "m"), ("later", "d"), ("earlier", "c"), ("later", "b"), ("with", "a"), ("earlier", "e")),
                (("at", "a"), ("with", "m"), ("earlier", "c"), ("earlier", "e"), ("later", "b"), ("later", "d")),
            ),
            (
                (("at", "x"), ("with", "b"), ("back", "k"), ("with", "a"), ("earlier", "z"), ("then", "y")),
                (("at", "a"), ("with", "k"), ("earlier", "z"), ("later", "y"), ("then", "b"), ("with", "x")),
            ),
        ):
            with self.subTest(tale=tale):
                self.assertEqual(straight_tale(tale), told)

    def test_drawn_tales(self):
        roads = 0
        for tale in small_tales() + [drawn_pairs(random.Random(k), many_names(9), 24) for k in range(30)]:
            word, road = find_road(tale)
            if word == "none":
                assert_plain(self, NoRoad, straight_tale, tale)
                continue
            roads += 1
            told = straight_tale(tale)
            self.assertEqual(told, plain_straight(tale, road), tale)
            self.assertEqual([word for word, _ in told[:1]], ["at"] * (tale != ()))
            self.assertLessEqual({word for word, _ in told[1:]}, {"then", "with", "earlier", "later"})
            self.assertEqual((plain_groups(told), plain_covers(told)), (plain_groups(tale), plain_covers(tale)))
            self.assertEqual((groups(told), covers(told)), (groups(tale), covers(tale)))
            self.assertEqual(straight_tale(told), told)
            self.assertEqual(find_road(told), (word, road))
        self.assertGreater(roads, 60)

    def test_kinds(self):
        told = straight_tale(TALE)
        self.assertEqual((type(told), {type(sentence) for sentence in told}), (tuple, {tuple}))

    def test_every_straight_tale_has_a_road(self):
        source = random.Random(227)
        for _ in range(80):
            tale = (("at", source.choice(SMALL)),)
            for _ in range(source.randint(0, 8)):
                sentence = (source.choice(("then", "with", "earlier", "later")), source.choice(SMALL))
                if plain_consistent(tale + (sentence,)):
                    tale += (sentence,)
            self.assertEqual(find_road(tale)[0], "road", tale)


class ErrorTests(unittest.TestCase):
    def test_invalid_tale_comes_first(self):
        for tale, problem in BAD_TALES:
            assert_raises(self, InvalidTale, "problem", problem, find_road, tale)
            assert_raises(self, InvalidTale, "problem", problem, straight_tale, tale)
            for thing in (None, ("road", ()), ("none", ())):
                assert_raises(self, InvalidTale, "problem", problem, check_road, tale, thing)


if __name__ == "__main__":
    unittest.main()
