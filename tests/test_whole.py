"""What the document promises over the whole program, on drawn tales."""

import itertools
import random
import unittest

from backthen import counts, evidence, orders, ranking, reports, roads, safety, short, tales, tellers
from backthen.errors import InvalidTale, TaleError
from backthen.session import Session
from backthen.settler import Settler, settle
from tests.helper import (
    BAD_TALES, assert_raises, drawn_forests, drawn_pairs, drawn_tales, joined, layers, many_names, plain_consistent, plain_covers,
    plain_groups, plain_moments,
)

SMALL = ("b", "a", "ab", "z", "c", "ba")
TURNED = {"then": "back", "back": "then", "later": "earlier", "earlier": "later", "at": "at", "with": "with"}
SIDES = {"before": "after", "after": "before", "same": "same", "unknown": "unknown"}
GUARDS = ("ana", "bo", "cy")
NAMES = many_names(20)


def small_tales(seed):
    source = random.Random(seed)
    pairs = [drawn_pairs(source, SMALL[:5], source.randint(2, 7)) for _ in range(15)]
    forests = drawn_forests(seed + 1, [source.randint(2, 6) for _ in range(15)], ("later", "earlier", "with"))
    return drawn_tales(seed + 2, 40, 10, SMALL) + pairs + forests


def drawn_guards(seed, many):
    """Drawn tuples of tellers whose names are no moments."""
    source = random.Random(seed)
    told = drawn_tales(seed, many * 2, 7, SMALL)
    return [tuple((name, source.choice(told)) for name in GUARDS[:source.randint(1, 3)]) for _ in range(many)]


def retold(source, tale):
    """Another tale with the same order."""
    parts = []
    for g, h in plain_covers(tale):
        one, other = source.choice(g), source.choice(h)
        parts.append(source.choice((
            (("at", one), ("then", other)), (("at", one), ("later", other)),
            (("at", other), ("back", one)), (("at", other), ("earlier", one)),
        )))
    for group in plain_groups(tale):
        names = source.sample(group, len(group))
        parts.append((("at", names[0]),) + tuple(("with", name) for name in names[1:]))
    return tuple(sentence for part in source.sample(parts, len(parts)) for sentence in part)


def caught(call, *arguments):
    """What the call returns, or the error that it raises, with its field."""
    try:
        return call(*arguments)
    except TaleError as error:
        return (type(error).__name__, sorted(vars(error).items()))


def renamed(thing, names):
    """The thing with new names for all moments in it."""
    if isinstance(thing, (tuple, list)):
        return type(thing)(renamed(item, names) for item in thing)
    if isinstance(thing, str):
        return names.get(thing, thing)
    return thing


def facts_of_orders(tale, names):
    """Results that depend on the order of the tale alone; names are some of its moments."""
    line = orders.first_timeline(tale)
    found = [
        orders.groups(tale), orders.covers(tale), orders.components(tale), orders.cycle_rank(tale), line,
        orders.check_timeline(tale, line[::-1]), caught(counts.count_timelines, tale), caught(ranking.middle_pair, tale),
        caught(ranking.nth_timeline, tale, 3), caught(ranking.timeline_rank, tale, line),
        roads.find_road(tale)[0], caught(roads.straight_tale, tale), caught(short.shortest_length, tale),
        caught(settle, tale, line), caught(Settler(tale).question), Settler(tale).remaining(), Settler(tale).result(),
    ]
    if found[10] == "road":
        found.append(roads.find_road(tale))
    for a in names:
        found += [caught(counts.place_counts, tale, a), caught(counts.mean_place, tale, a)]
    for a, b in itertools.product(names, repeat=2):
        word = orders.relation(tale, a, b)
        found += [word, caught(counts.share, tale, a, b), caught(counts.share_terms, tale, a, b)]
        if word == "unknown":
            found.append(evidence.explain_relation(tale, a, b))
    return found


def facts_of_words(tale, names):
    """Results that depend on the sentences, and are specified without fresh names or a choice."""
    report = tuple(enumerate(tale, 1))
    found = [tales.stands(tale), tales.moments(tale), safety.fragile_places(tale), reports.heard_tale(report)]
    found.append(reports.gain([report[::2], report[1::2]]))
    for a, b in itertools.product(names, repeat=2):
        found += [safety.safety(tale, a, b), evidence.explain_relation(tale, a, b)]
    return found


class SameOrderTests(unittest.TestCase):
    def test_tales_with_the_same_order(self):
        source = random.Random(501)
        for tale in small_tales(503):
            other = retold(source, tale)
            self.assertIsNone(short.check_same_order(tale, other), (tale, other))
            names = plain_moments(tale)
            self.assertEqual(facts_of_orders(tale, names), facts_of_orders(other, names), (tale, other))

    def test_straight_and_short_tales_have_the_same_order(self):
        for tale in small_tales(507):
            for call in (roads.straight_tale, short.shortest_tale):
                told = caught(call, tale)
                if told != ("NoRoad", []) and told != ("NotForest", []):
                    self.assertIsNone(short.check_same_order(tale, told), (tale, told))
                    self.assertEqual(facts_of_orders(told, plain_moments(tale)[:2]), facts_of_orders(tale, plain_moments(tale)[:2]))


class RenamedTests(unittest.TestCase):
    def names(self, moments):
        """New names in the same order as the old ones."""
        return dict(zip(sorted(moments), many_names(len(moments))))

    def test_renamed_moments_give_renamed_results(self):
        for tale in small_tales(511):
            moments = plain_moments(tale)
            names = self.names(moments)
            other = renamed(tale, names)
            for facts in (facts_of_orders, facts_of_words):
                self.assertEqual(renamed(facts(tale, moments), names), facts(other, plain_moments(other)), (tale, other))

    def test_renamed_tellers_and_moments(self):
        for told in drawn_guards(513, 60):
            moments = plain_moments(joined(told))
            names = {**self.names(moments), "ana": "maa", "bo": "mab", "cy": "mac"}
            other = renamed(told, names)
            for call in (tellers.conflict, tellers.join, tellers.suspects, tellers.dismissed):
                self.assertEqual(renamed(caught(call, told), names), caught(call, other), (told, call))
            for a, b in itertools.product(moments, repeat=2):
                self.assertEqual(renamed(tellers.backers(told, a, b), names), tellers.backers(other, names[a], names[b]))


class BackwardTests(unittest.TestCase):
    def backward(self, tale):
        return tuple((TURNED[word], moment) for word, moment in tale)

    def test_a_tale_told_backwards_in_time(self):
        for tale in small_tales(521):
            other = self.backward(tale)
            moments, size = plain_moments(tale), len(plain_groups(tale))
            self.assertEqual(orders.groups(other), orders.groups(tale))
            self.assertEqual(orders.covers(other), sorted((h, g) for g, h in orders.covers(tale)))
            self.assertEqual(orders.components(other), orders.components(tale))
            self.assertEqual(counts.count_timelines(other), counts.count_timelines(tale))
            self.assertIsNone(orders.check_timeline(other, orders.first_timeline(tale)[::-1]))
            self.assertEqual(safety.fragile_places(other), safety.fragile_places(tale))
            self.assertEqual(caught(short.shortest_length, other), caught(short.shortest_length, tale))
            for a in moments:
                self.assertEqual(counts.place_counts(other, a), counts.place_counts(tale, a)[::-1])
                n, of = counts.mean_place(tale, a)
                self.assertEqual(counts.mean_place(other, a), ((size - 1) * of - n, of))
            for a, b in itertools.product(moments, repeat=2):
                self.assertEqual(orders.relation(other, a, b), SIDES[orders.relation(tale, a, b)])
                self.assertEqual(counts.share(other, a, b), counts.share(tale, b, a))
                self.assertEqual(safety.safety(other, a, b), safety.safety(tale, a, b))

    def test_roads_and_middle_pairs(self):
        for tale in small_tales(527):
            other = self.backward(tale)
            word, road = roads.find_road(tale)
            self.assertEqual(roads.find_road(other)[0], word)
            if word == "road":
                self.assertEqual(roads.find_road(other)[1], road[::-1])
            else:
                self.assertIsNone(roads.check_road(other, ("none", road)))
            middle = ranking.middle_pair(tale)
            if middle is not None:
                g, h, (n, of) = middle
                self.assertEqual(ranking.middle_pair(other), (g, h, (of - n, of)))

    def test_tellers(self):
        for told in drawn_guards(531, 60):
            other = tuple((name, self.backward(tale)) for name, tale in told)
            self.assertEqual(tellers.dismissed(other), tellers.dismissed(told))
            ring, turned = tellers.conflict(told), tellers.conflict(other)
            self.assertEqual(ring is None, turned is None)
            if ring is not None:
                self.assertEqual(len(turned), len(ring))
                self.assertIsNone(tellers.check_ring(other, ring[::-1]))
                self.assertEqual(tellers.suspects(other), tellers.suspects(told))
            for a, b in itertools.product(plain_moments(joined(told)), repeat=2):
                self.assertEqual(tellers.backers(other, a, b), tellers.backers(told, b, a))


class SessionTests(unittest.TestCase):
    def test_a_session_of_the_sentences_of_tellers_without_conflict(self):
        source = random.Random(541)
        agreed = 0
        for told in drawn_guards(543, 120):
            if not plain_consistent(joined(told)):
                self.assertIsNotNone(tellers.conflict(told))
                continue
            agreed += 1
            session, left = Session(), {name: list(tale) for name, tale in told}
            while any(left.values()):
                name = source.choice([name for name in left if left[name]])
                session.tell(name, left[name].pop(0))
            self.assertEqual(session.tale(), tellers.join(told))
            self.assertEqual(session.tellers(), tuple(item for item in told if item[1]))
            for a, b in itertools.product(plain_moments(joined(told)), repeat=2):
                self.assertEqual(session.relation(a, b), orders.relation(tellers.join(told), a, b))
        self.assertGreater(agreed, 30)


class InvalidTaleTests(unittest.TestCase):
    # Functions that take a tale first, each with more arguments that are wrong, too.
    CALLS = (
        (tales.format_tale,), (tales.stands,), (tales.moments,), (orders.groups,), (orders.covers,), (orders.components,),
        (orders.cycle_rank,), (orders.relation, "q", None), (orders.first_timeline,), (orders.check_timeline, None),
        (evidence.explain_relation, "q", None), (evidence.check_explanation, "q", None, None), (counts.count_timelines,),
        (counts.place_counts, "q"), (counts.mean_place, "q"), (counts.share, "q", None), (counts.share_terms, "q", None),
        (counts.check_share_terms, "q", None, None), (ranking.nth_timeline, -1), (ranking.timeline_rank, None),
        (ranking.middle_pair,), (roads.find_road,), (roads.check_road, None), (roads.straight_tale,),
        (safety.dozed_tale, [0]), (safety.safety, "q", None), (safety.explain_safety, "q", None),
        (safety.check_safety, "q", None, None), (safety.fragile_places,), (settle, None), (Settler,),
        (short.shortest_length,), (short.shortest_tale,), (short.check_same_order, None),
    )

    def test_every_function_that_takes_a_tale(self):
        # Too large for every call that has a limit of its own, and no forest.
        large = layers([NAMES[:10], NAMES[10:20]]) + (("at", "a"), ("with", "b"), ("then", "b"))
        for tale, problem in BAD_TALES + ((large, ("cycle", len(large) - 1)),):
            for call, *more in self.CALLS:
                with self.subTest(call.__name__, tale=tale):
                    assert_raises(self, InvalidTale, "problem", problem, call, tale, *more)
            assert_raises(self, InvalidTale, "problem", problem, reports.check_fit, (), tale)
            assert_raises(self, InvalidTale, "problem", problem, reports.gap_stands, ((9, ("at", "a")),), tale)
            assert_raises(self, InvalidTale, "problem", problem, short.check_same_order, (), tale)


if __name__ == "__main__":
    unittest.main()
