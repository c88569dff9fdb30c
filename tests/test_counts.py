"""Point 8: count_timelines, place_counts, mean_place and share."""

import functools
import itertools
import math
import random
import unittest

from backthen.counts import count_timelines, mean_place, place_counts, share, share_terms
from backthen.errors import InvalidTale, TooLarge, UnknownMoment
from backthen.orders import cycle_rank, groups
from tests.helper import (
    ANYTHING, BAD_TALES, assert_raises, chain, crown, drawn_forests, drawn_pairs, drawn_tales, layers,
    many_names, plain_covers, plain_fraction, plain_group, plain_groups, plain_moments, plain_precedence,
    plain_timelines, zigzag,
)

TALE = (("at", "a"), ("then", "b"), ("at", "c"))
NAMES = many_names(61)
SMALL = ("b", "a", "ab", "z", "aa", "c")


def rooted_count(tale):
    """The number of timelines of a tale in which no group has two covers into it: n! by all sizes."""
    found, pairs = plain_groups(tale), plain_covers(tale)

    def size(group):
        return 1 + sum(size(other) for one, other in pairs if one == group)

    return math.factorial(len(found)) // math.prod(size(group) for group in found)


def listed_count(tale, more=()):
    """The number of timelines, by taking away first groups; more are further pairs (before, behind)."""
    pairs = plain_precedence(tale) | set(more)

    @functools.cache
    def count(left):
        firsts = [group for group in left if not any((other, group) in pairs for other in left)]
        return sum(count(left - {group}) for group in firsts) if left else 1

    return count(frozenset(plain_groups(tale)))


def zigzag_count(many):
    """The number of zigzag orders of many things, by the triangle of Seidel."""
    row = [1]
    for _ in range(many - 1):
        row = [0, *itertools.accumulate(reversed(row))]
    return sum(row)


class SmallTests(unittest.TestCase):
    def test_examples(self):
        self.assertEqual(count_timelines(TALE), 3)
        self.assertEqual(place_counts(TALE, "a"), [2, 1, 0])
        self.assertEqual(mean_place(TALE, "a"), (1, 3))
        self.assertEqual(share(TALE, "a", "c"), (2, 3))

    def test_empty_tale(self):
        self.assertEqual(count_timelines(()), 1)
        for call, arguments in ((place_counts, ["a"]), (mean_place, ["a"]), (share, ["a", "b"])):
            assert_raises(self, UnknownMoment, "name", "a", call, (), *arguments)

    def test_one_group(self):
        tale = (("at", "a"), ("with", "b"))
        self.assertEqual((count_timelines(tale), place_counts(tale, "b"), mean_place(tale, "a")), (1, [1], (0, 1)))
        self.assertEqual((share(tale, "a", "b"), share(tale, "a", "a")), ((0, 1), (0, 1)))

    def test_shares_of_what_is_known(self):
        self.assertEqual((share(TALE, "a", "b"), share(TALE, "b", "a")), ((1, 1), (0, 1)))
        ring = crown(NAMES[:5])
        self.assertEqual((share(ring, NAMES[0], NAMES[2]), share(ring, NAMES[2], NAMES[0])), ((1, 1), (0, 1)))
        self.assertEqual((share(ring, NAMES[0], NAMES[0]), share(ring, NAMES[0], NAMES[1])), ((0, 1), (1, 2)))

    def test_groups_of_several_moments(self):
        tale = (("at", "d"), ("with", "a"), ("then", "b"), ("at", "e"), ("with", "c"))
        self.assertEqual(count_timelines(tale), 3)
        self.assertEqual(place_counts(tale, "d"), place_counts(tale, "a"))
        self.assertEqual(place_counts(tale, "d"), [2, 1, 0])
        self.assertEqual((mean_place(tale, "e"), share(tale, "d", "e")), ((1, 1), (2, 3)))

    def test_kinds(self):
        self.assertIs(type(count_timelines(TALE)), int)
        self.assertEqual({type(item) for item in place_counts(TALE, "b")}, {int})
        for found in (mean_place(TALE, "a"), share(TALE, "a", "c"), share(TALE, "a", "a")):
            self.assertEqual((type(found), [type(item) for item in found]), (tuple, [int, int]))

    def test_drawn_tales_against_all_timelines(self):
        rings = 0
        source = random.Random(45)
        pairs = [drawn_pairs(source, SMALL, source.randint(5, 9)) for _ in range(25)]
        for tale in drawn_tales(43, 150, 10, SMALL) + drawn_tales(44, 12, 24, (*SMALL, "ba")) + pairs:
            lines = plain_timelines(tale)
            rings += cycle_rank(tale) > 0
            with self.subTest(tale=tale):
                self.assertEqual(count_timelines(tale), len(lines))
                for a in plain_moments(tale):
                    places = [line.index(plain_group(tale, a)) for line in lines]
                    self.assertEqual(place_counts(tale, a), [places.count(i) for i in range(len(groups(tale)))])
                    self.assertEqual(mean_place(tale, a), plain_fraction(sum(places), len(lines)))
                    for b in plain_moments(tale):
                        others = [line.index(plain_group(tale, b)) for line in lines]
                        ahead = sum(one < other for one, other in zip(places, others))
                        self.assertEqual(share(tale, a, b), plain_fraction(ahead, len(lines)))
        self.assertGreater(rings, 5)

    def test_a_changed_result_has_no_effect(self):
        for tale in (TALE, crown(NAMES[:6])):
            name = tale[0][1]
            kept = place_counts(tale, name)
            changed = place_counts(tale, name)
            changed.reverse()
            changed.append(7)
            self.assertEqual(place_counts(tale, name), kept)


class TwelveGroupTests(unittest.TestCase):
    def test_layers_of_groups(self):
        tale = layers([NAMES[:6], NAMES[6:12]])
        self.assertEqual(cycle_rank(tale), 25)
        self.assertEqual(count_timelines(tale), math.factorial(6) ** 2)
        self.assertEqual(place_counts(tale, NAMES[7]), [0] * 6 + [math.factorial(6) * math.factorial(5)] * 6)
        self.assertEqual(mean_place(tale, NAMES[0]), (5, 2))
        self.assertEqual(share(tale, NAMES[3], NAMES[1]), (1, 2))
        self.assertEqual(share(tale, NAMES[11], NAMES[1]), (0, 1))

    def test_a_cycle_of_covers_among_twelve_groups(self):
        tale = crown(NAMES[:12])
        self.assertEqual(cycle_rank(tale), 1)
        self.assertEqual(count_timelines(tale), math.factorial(12) // 6)
        self.assertEqual(share(tale, NAMES[0], NAMES[1]), (1, 2))
        # Among the four groups of the cycle its index is 0 or 1, and an unrelated one may go to five places.
        self.assertEqual(share(tale, NAMES[0], NAMES[11]), (7, 10))
        self.assertEqual(place_counts(tale, NAMES[11]), [math.factorial(12) // 72] * 12)

    def test_drawn_tales_of_twelve_groups(self):
        source = random.Random(47)
        rings = 0
        for _ in range(25):
            tale = drawn_pairs(source, NAMES[:12], source.randint(8, 20))
            rings += cycle_rank(tale) > 0
            total = listed_count(tale)
            self.assertEqual(count_timelines(tale), total)
            for a, b in [source.sample(NAMES[:12], 2) for _ in range(4)]:
                self.assertEqual(share(tale, a, b), plain_fraction(listed_count(tale, [((a,), (b,))]), total))
                self.assertEqual(sum(place_counts(tale, a)), total)
        self.assertGreater(rings, 15)


class ForestTests(unittest.TestCase):
    def test_chains(self):
        for many in (13, 37, 60):
            tale = chain("back", NAMES[:many])
            self.assertEqual(count_timelines(tale), 1)
            self.assertEqual(place_counts(tale, NAMES[2]), [0] * (many - 3) + [1, 0, 0])
            self.assertEqual(mean_place(tale, NAMES[0]), (many - 1, 1))
            self.assertEqual(share(tale, NAMES[0], NAMES[many - 1]), (0, 1))
            self.assertEqual(share(tale, NAMES[many - 1], NAMES[0]), (1, 1))

    def test_several_chains(self):
        for sizes in ((7, 6), (20, 20, 20), (1, 2, 4, 8, 16, 29)):
            tale, start = (), 0
            for size in sizes:
                tale += chain("then", NAMES[start:start + size])
                start += size
            found = math.factorial(start)
            for size in sizes:
                found //= math.factorial(size)
            self.assertEqual(count_timelines(tale), found)

    def test_unrelated_groups(self):
        for many in (13, 60):
            tale = chain("at", NAMES[:many])
            self.assertEqual(count_timelines(tale), math.factorial(many))
            self.assertEqual(place_counts(tale, NAMES[5]), [math.factorial(many - 1)] * many)
            self.assertEqual(mean_place(tale, NAMES[5]), plain_fraction(many - 1, 2))
            self.assertEqual(share(tale, NAMES[5], NAMES[0]), (1, 2))

    def test_rooted_trees(self):
        for tale in drawn_forests(53, (13, 20, 30, 40, 50, 60, 60), ("later",)):
            self.assertEqual(count_timelines(tale), rooted_count(tale))
            mirrored = tuple((("earlier" if word == "later" else word), moment) for word, moment in tale)
            self.assertEqual(count_timelines(mirrored), rooted_count(tale))

    def test_stars(self):
        for many in (13, 60):
            later, earlier = chain("later", NAMES[:many]), chain("earlier", NAMES[:many])
            for tale in (later, earlier):
                self.assertEqual(count_timelines(tale), math.factorial(many - 1))
                self.assertEqual(share(tale, NAMES[1], NAMES[2]), (1, 2))
            self.assertEqual(place_counts(later, NAMES[0]), [math.factorial(many - 1)] + [0] * (many - 1))
            self.assertEqual(mean_place(earlier, NAMES[0]), (many - 1, 1))

    def test_zigzags(self):
        self.assertEqual([zigzag_count(many) for many in range(1, 8)], [1, 1, 2, 5, 16, 61, 272])
        for many in (7, 13, 14, 59, 60):
            self.assertEqual(count_timelines(zigzag(NAMES[:many])), zigzag_count(many))

    def test_drawn_forests_against_a_slow_count(self):
        source = random.Random(59)
        for tale in drawn_forests(61, (13, 13, 14, 14, 15, 15, 16)):
            total = listed_count(tale)
            self.assertEqual(count_timelines(tale), total)
            for a, b in [source.sample(plain_moments(tale), 2) for _ in range(4)]:
                ahead = listed_count(tale, [(plain_group(tale, a), plain_group(tale, b))])
                self.assertEqual(share(tale, a, b), plain_fraction(ahead, total), (tale, a, b))

    def test_sums_over_drawn_forests(self):
        for tale in drawn_forests(67, (25, 40, 60)):
            total, names = count_timelines(tale), plain_moments(tale)
            counts = [place_counts(tale, name) for name in names]
            self.assertEqual({sum(row) for row in counts}, {total})
            self.assertEqual({sum(column) for column in zip(*counts)}, {total})
            for name, row in zip(names, counts):
                found = sum(i * count for i, count in enumerate(row))
                self.assertEqual(mean_place(tale, name), plain_fraction(found, total))
            # The place of a group is the number of groups ahead of it.
            for b in names[::12]:
                ahead = sum(plain_fraction_sum(share(tale, a, b), total) for a in names)
                self.assertEqual(plain_fraction(ahead, total), mean_place(tale, b))

    def test_groups_of_several_moments_in_a_forest(self):
        tale = chain("at", NAMES[:20]) + (("with", NAMES[50]), ("later", NAMES[51]), ("at", NAMES[0]), ("with", NAMES[52]))
        self.assertEqual(count_timelines(tale), math.factorial(21) // 2)
        self.assertEqual(share(tale, NAMES[50], NAMES[52]), (2, 3))
        self.assertEqual(share(tale, NAMES[0], NAMES[52]), (0, 1))
        self.assertEqual(place_counts(tale, NAMES[50]), place_counts(tale, NAMES[19]))


def plain_fraction_sum(fraction, total):
    """How many of total the fraction is."""
    return fraction[0] * total // fraction[1]


class ErrorTests(unittest.TestCase):
    def setUp(self):
        self.large = (chain("at", NAMES), crown(NAMES[:13]), layers([NAMES[:7], NAMES[7:14]]), chain("then", NAMES))
        self.calls = ((count_timelines, 0), (place_counts, 1), (mean_place, 1), (share, 2), (share_terms, 2))

    def test_the_edges_of_what_is_countable(self):
        for tale in self.large:
            for call, many in self.calls:
                with self.subTest(call.__name__), self.assertRaises(TooLarge):
                    call(tale, *[NAMES[0]] * many)
        self.assertEqual(count_timelines(chain("with", NAMES) + (("then", "z"),)), 1)
        self.assertEqual(count_timelines(crown(NAMES[:12]) + (("with", NAMES[60]),)), math.factorial(12) // 6)

    def test_unknown_moments_before_too_large(self):
        for tale in (TALE, crown(NAMES[:5]), *self.large):
            known = tale[0][1]
            for thing in (*ANYTHING, "z", ("at", "a")):
                for call in (place_counts, mean_place):
                    assert_raises(self, UnknownMoment, "name", thing, call, tale, thing)
                for call in (share, share_terms):
                    for given in ((thing, known), (known, thing), (thing, thing), (thing, "q")):
                        assert_raises(self, UnknownMoment, "name", thing, call, tale, *given)

    def test_invalid_tale_comes_first(self):
        bad = [(tale + (("then", NAMES[0]), ("then", NAMES[0])), tale) for tale in self.large[:2]]
        cycles = [(tale, ("cycle", len(short) + 1)) for tale, short in bad]
        for tale, problem in (*BAD_TALES, *cycles):
            for call, many in self.calls:
                assert_raises(self, InvalidTale, "problem", problem, call, tale, *["q", None][:many])


if __name__ == "__main__":
    unittest.main()
