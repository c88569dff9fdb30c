"""Point 12: dozed_tale, safety, explain_safety, check_safety and fragile_places."""

import itertools
import random
import unittest

from backthen.errors import InvalidPlace, InvalidTale, NothingKnown, UnknownMoment
from backthen.orders import relation
from backthen.safety import check_safety, dozed_tale, explain_safety, fragile_places, safety
from backthen.tales import check_tale
from tests.helper import (
    ANYTHING, BAD_TALES, all_tales, assert_plain, assert_raises, chain, drawn_pairs, drawn_tales, plain_consistent,
    plain_jumps, plain_known, plain_moments, plain_reaches, plain_relation,
)

TALE = (("at", "a"), ("then", "b"))
TWICE = (("at", "a"), ("then", "b"), ("at", "a"), ("later", "b"))
SMALL = ("b", "a", "ab", "z", "c")


def small_tales():
    source = random.Random(281)
    pairs = [drawn_pairs(source, SMALL[:4], source.randint(2, 4))[3:] for _ in range(25)]
    return drawn_tales(283, 60, 8, SMALL) + drawn_tales(284, 60, 10, SMALL[:3]) + pairs


def plain_safety(tale, a, b):
    """What safety must return, by trying all sets of places."""
    if a == b:
        return None
    for many in range(len(tale)):
        for places in itertools.combinations(range(1, len(tale)), many):
            if not plain_known(plain_jumps(tale, places), a, b):
                return many
    raise AssertionError("dozing everywhere leaves nothing")


def plain_step(tale, node, step):
    """The node that the step leads to, None if it is no step or may not be taken. P(j) is written ("P", j)."""
    if not isinstance(step, tuple) or len(step) != 2 or step[0] not in ("say", "hold") or type(step[1]) is not int:
        return None
    kind, j = step
    if not 1 <= j < len(tale) or tale[j][0] == "at":
        return None
    word, moment = tale[j]
    stand = ("P", j)
    if kind == "hold":
        before = ("P", j - 1) if tale[j - 1][0] in ("later", "earlier", "with") else tale[j - 1][1]
        return {stand: before, before: stand}.get(node)
    if word == "with":
        return {stand: moment, moment: stand}.get(node)
    return {stand: moment}.get(node) if word in ("then", "later") else {moment: stand}.get(node)


def plain_is_route(tale, start, goal, route):
    if not isinstance(route, tuple):
        return False
    node = start
    for step in route:
        node = plain_step(tale, node, step)
        if node is None:
            return False
    return node == goal


def plain_places_problem(tale, places):
    """The smallest index whose item is no place or not greater than the one ahead, None if there is none."""
    for i, place in enumerate(places):
        if type(place) is not int or not 1 <= place <= len(tale) - 1 or (i > 0 and place <= places[i - 1]):
            return i
    return None


def plain_check(tale, a, b, thing):
    """What check_safety must return, read off the document line by line."""
    if not isinstance(thing, tuple) or len(thing) != 3 or type(thing[0]) is not int or thing[0] < 1:
        return ("form",)
    many, routes, places = thing
    if not isinstance(routes, tuple) or not isinstance(places, tuple):
        return ("form",)
    if len(routes) != many or len(places) != many:
        return ("length",)
    start, goal = (b, a) if plain_relation(tale, a, b) == "after" else (a, b)
    for i, route in enumerate(routes):
        if not plain_is_route(tale, start, goal, route):
            return ("route", i)
    holds = sorted(j for route in routes for kind, j in route if kind == "hold")
    for one, other in zip(holds, holds[1:]):
        if one == other:
            return ("shared", one)
    if plain_places_problem(tale, places) is not None:
        return ("place", plain_places_problem(tale, places))
    return ("open",) if plain_known(plain_jumps(tale, places), a, b) else None


class DozedTests(unittest.TestCase):
    def test_example(self):
        self.assertEqual(dozed_tale((("at", "b"), ("then", "c")), [1]), (("at", "b"), ("at", "a"), ("then", "c")))

    def test_no_places(self):
        for places in ((), []):
            self.assertEqual(dozed_tale(TALE, places), TALE)
            self.assertEqual(dozed_tale((), places), ())

    def test_lists_and_tuples(self):
        told = (("at", "a"), ("at", "c"), ("then", "b"), ("at", "a"), ("at", "d"), ("later", "b"))
        self.assertEqual(dozed_tale(TWICE, [1, 3]), told)
        self.assertEqual(dozed_tale(TWICE, (1, 3)), told)

    def test_ahead_of_every_sentence(self):
        tale = (("at", "m"), ("then", "n"), ("at", "o"), ("with", "p"))
        for place in (1, 2, 3):
            self.assertEqual(dozed_tale(tale, [place]), tale[:place] + (("at", "a"),) + tale[place:])

    def test_fresh_names_are_no_moments_of_the_tale(self):
        tale = (("at", "b"), ("then", "a"), ("then", "d"), ("later", "f"))
        self.assertEqual([moment for word, moment in dozed_tale(tale, (1, 2, 3))[1:] if word == "at"], ["c", "e", "g"])

    def test_fresh_names_in_the_order_of_the_tale(self):
        tale = chain("at", ["m"] * 60)
        told = dozed_tale(tale, tuple(range(1, 60)))
        self.assertEqual([moment for _, moment in told[1::2]][24:28], ["z", "aa", "ab", "ac"])
        self.assertIn(("at", "at"), told)
        self.assertEqual(told, plain_jumps(tale, range(1, 60)))

    def test_drawn_tales(self):
        source = random.Random(287)
        for tale in drawn_tales(288, 100, 12):
            places = sorted(source.sample(range(1, max(1, len(tale))), source.randint(0, max(0, len(tale) - 1))))
            self.assertEqual(dozed_tale(tale, places), plain_jumps(tale, places), (tale, places))
            self.assertEqual(dozed_tale(tale, tuple(places)), plain_jumps(tale, places))
            self.assertIsNone(check_tale(dozed_tale(tale, places)))

    def test_items_that_are_no_places(self):
        for place in (*ANYTHING, 4, 5, -1, 200, "1", (1,), [1]):
            if type(place) is not int or not 1 <= place <= 3:
                assert_raises(self, InvalidPlace, "index", 0, dozed_tale, TWICE, [place])
                assert_raises(self, InvalidPlace, "index", 0, dozed_tale, TWICE, (place, 2))
                assert_raises(self, InvalidPlace, "index", 1, dozed_tale, TWICE, (1, place))
                assert_raises(self, InvalidPlace, "index", 2, dozed_tale, TWICE, [1, 2, place, None])

    def test_the_edges(self):
        self.assertEqual(len(dozed_tale(TWICE, [3])), 5)
        for place in (0, 4, True):
            assert_raises(self, InvalidPlace, "index", 0, dozed_tale, TWICE, [place])
        for tale in ((), TALE[:1]):
            assert_raises(self, InvalidPlace, "index", 0, dozed_tale, tale, [1])
            assert_raises(self, InvalidPlace, "index", 0, dozed_tale, tale, [0])

    def test_places_ascend(self):
        assert_raises(self, InvalidPlace, "index", 1, dozed_tale, TWICE, [2, 1])
        assert_raises(self, InvalidPlace, "index", 1, dozed_tale, TWICE, (2, 2))
        assert_raises(self, InvalidPlace, "index", 2, dozed_tale, TWICE, (1, 3, 2))
        assert_raises(self, InvalidPlace, "index", 2, dozed_tale, TWICE, (1, 3, 3, 0))

    def test_invalid_tale_comes_first(self):
        for tale, problem in BAD_TALES:
            for places in ([], [0], (None,)):
                assert_raises(self, InvalidTale, "problem", problem, dozed_tale, tale, places)

    def test_the_list_is_not_changed(self):
        places = [1, 3]
        dozed_tale(TWICE, places)
        self.assertEqual(places, [1, 3])


class SafetyTests(unittest.TestCase):
    def safe(self, tale, a, b, many):
        with self.subTest(tale=tale, a=a, b=b):
            self.assertEqual(safety(tale, a, b), many)
            self.assertEqual(plain_safety(tale, a, b), many)
            if many:
                self.assertIsNone(plain_check(tale, a, b, explain_safety(tale, a, b)))

    def test_example(self):
        self.safe(TWICE, "a", "b", 2)

    def test_after_and_same(self):
        self.safe(TWICE, "b", "a", 2)
        tale = (("at", "a"), ("with", "b"), ("at", "b"), ("with", "a"))
        self.safe(tale, "a", "b", 2)
        self.safe(tale, "b", "a", 2)

    def test_the_same_moment(self):
        for a in ("a", "b"):
            self.assertIsNone(safety(TWICE, a, a))
        self.assertIsNone(safety((("at", "a"), ("with", "a")), "a", "a"))

    def test_unknown_relations(self):
        tale = (("at", "a"), ("later", "b"), ("later", "c"), ("at", "d"))
        self.safe(tale, "b", "c", 0)
        self.safe(tale, "a", "d", 0)
        self.assertIs(type(safety(tale, "a", "d")), int)

    def test_a_place_ahead_of_sentences_that_do_not_move(self):
        # Whoever dozes at place 1 no longer knows the stand of any of the sentences behind it.
        tale = (("at", "a"), ("later", "b"), ("later", "b"), ("with", "c"), ("later", "b"))
        self.safe(tale, "a", "b", 1)
        self.safe(tale, "c", "b", 2)
        self.safe(tale, "a", "c", 1)

    def test_a_doze_is_made_good_by_a_jump(self):
        self.safe(chain("then", "ab") * 3, "a", "b", 3)
        self.safe(chain("then", "abc"), "a", "c", 1)
        self.safe(chain("then", "abc") + chain("then", "ac"), "a", "c", 2)

    def test_a_stand_that_two_sentences_share(self):
        tale = (("at", "a"), ("later", "b"), ("earlier", "c"), ("with", "d"), ("then", "e"), ("back", "c"))
        for a, b in itertools.permutations("abcde", 2):
            self.safe(tale, a, b, plain_safety(tale, a, b))

    def test_routes_that_hold_the_same_place_in_both_directions(self):
        # Flows through a place in opposite directions cancel out.
        tale = (("at", "a"), ("with", "b"), ("with", "c"), ("with", "d"), ("at", "c"), ("with", "a"), ("with", "b"))
        for a, b in itertools.combinations("abcd", 2):
            self.safe(tale, a, b, plain_safety(tale, a, b))

    def test_the_shortest_route_may_stand_in_the_way_of_two(self):
        tale = chain("later", "amxyg") + (("at", "a"), ("then", "m"), ("later", "g"))
        self.safe(tale, "a", "g", 2)
        self.safe(tale, "g", "a", 2)
        self.safe(tale + (("at", "a"), ("later", "g")), "a", "g", 3)
        back = chain("earlier", "gmxya") + (("at", "g"), ("back", "m"), ("earlier", "a"))
        self.safe(back, "a", "g", 2)
        same = chain("with", "amxyg") + (("at", "a"), ("with", "m"), ("at", "m"), ("with", "g"))
        self.safe(same, "a", "g", 2)

    def test_small_tales_against_all_sets_of_places(self):
        found = {}
        for tale in small_tales():
            for a, b in itertools.product(plain_moments(tale), repeat=2):
                many = plain_safety(tale, a, b)
                self.assertEqual(safety(tale, a, b), many, (tale, a, b))
                found[many] = found.get(many, 0) + 1
        self.assertLessEqual({None, 0, 1, 2}, set(found))
        self.assertGreater(sum(found[many] for many in found if many and many > 1), 20)

    def test_all_short_tales(self):
        for tale in all_tales(4, ("a", "b")):
            if plain_consistent(tale):
                for a, b in itertools.permutations(plain_moments(tale), 2):
                    self.assertEqual(safety(tale, a, b), plain_safety(tale, a, b), (tale, a, b))

    def test_dozing_never_changes_a_relation_to_another_one(self):
        source = random.Random(291)
        for tale in small_tales():
            places = [place for place in range(1, len(tale)) if source.random() < 0.4]
            for a, b in itertools.product(plain_moments(tale), repeat=2):
                found = relation(dozed_tale(tale, places), a, b)
                self.assertIn(found, (relation(tale, a, b), "unknown"))
                many = safety(tale, a, b)
                if many is not None and len(places) < many:
                    self.assertNotEqual(found, "unknown")


class ExplainTests(unittest.TestCase):
    def test_example(self):
        self.assertEqual(explain_safety(TALE, "a", "b"), (1, ((("hold", 1), ("say", 1)),), (1,)))

    def test_the_only_routes(self):
        self.assertEqual(explain_safety(TALE, "b", "a"), (1, ((("hold", 1), ("say", 1)),), (1,)))
        back = (("at", "b"), ("back", "a"))
        self.assertEqual(explain_safety(back, "a", "b"), (1, ((("say", 1), ("hold", 1)),), (1,)))
        self.assertEqual(explain_safety(back, "b", "a"), (1, ((("say", 1), ("hold", 1)),), (1,)))
        same = (("at", "a"), ("with", "b"))
        self.assertEqual(explain_safety(same, "a", "b"), (1, ((("hold", 1), ("say", 1)),), (1,)))
        self.assertEqual(explain_safety(same, "b", "a"), (1, ((("say", 1), ("hold", 1)),), (1,)))
        far = (("at", "a"), ("later", "x"), ("later", "b"))
        self.assertEqual(explain_safety(far, "a", "b")[1], ((("hold", 1), ("hold", 2), ("say", 2)),))
        two = explain_safety(TWICE, "a", "b")
        self.assertEqual(two[::2], (2, (1, 3)))
        self.assertEqual(sorted(two[1]), [(("hold", 1), ("say", 1)), (("hold", 3), ("say", 3))])

    def test_small_tales(self):
        words = set()
        for tale in small_tales():
            for a, b in itertools.permutations(plain_moments(tale), 2):
                if not plain_known(tale, a, b):
                    assert_plain(self, NothingKnown, explain_safety, tale, a, b)
                    continue
                words.add(plain_relation(tale, a, b))
                thing = explain_safety(tale, a, b)
                self.assertIsNone(plain_check(tale, a, b, thing), (tale, a, b, thing))
                self.assertEqual(thing[0], safety(tale, a, b), (tale, a, b))
                self.assertIsNone(check_safety(tale, a, b, thing))
        self.assertEqual(words, {"before", "after", "same"})

    def test_kinds(self):
        many, routes, places = explain_safety(TWICE, "a", "b")
        self.assertEqual([type(part) for part in (many, routes, places)], [int, tuple, tuple])
        self.assertEqual({type(route) for route in routes} | {type(step) for route in routes for step in route}, {tuple})
        self.assertEqual({type(j) for route in routes for _, j in route} | {type(j) for j in places}, {int})

    def test_nothing_known(self):
        tale = TALE + (("at", "c"),)
        for a, b in (("a", "c"), ("c", "b"), ("a", "a"), ("c", "c")):
            assert_plain(self, NothingKnown, explain_safety, tale, a, b)
            assert_plain(self, NothingKnown, check_safety, tale, a, b, None)
            assert_plain(self, NothingKnown, check_safety, tale, a, b, (1, ((),), (1,)))


class CheckTests(unittest.TestCase):
    ONE = (("hold", 1), ("say", 1))
    OTHER = (("hold", 3), ("say", 3))

    def check(self, thing, problem, tale=TWICE, a="a", b="b"):
        with self.subTest(tale=tale, a=a, b=b, thing=thing):
            self.assertEqual(check_safety(tale, a, b, thing), problem)
            self.assertEqual(plain_check(tale, a, b, thing), problem)

    def test_example(self):
        self.check((1, ((("say", 1),),), (1,)), ("route", 0), TALE)

    def test_what_shows_the_safety(self):
        self.check((2, (self.ONE, self.OTHER), (1, 3)), None)
        self.check((2, (self.OTHER, self.ONE), (1, 3)), None)
        self.check((2, (self.OTHER, self.ONE), (1, 3)), None, a="b", b="a")
        self.check((1, (self.ONE,), (1,)), None, TALE)

    def test_form(self):
        routes = (self.ONE, self.OTHER)
        for thing in (
            *ANYTHING, [2, routes, (1, 3)], (2, list(routes), (1, 3)), (2, routes, [1, 3]), (2, routes), (2, routes, (1, 3), ()),
            (True, (self.ONE,), (1,)), (0, (), ()), (-1, (), ()), ("2", routes, (1, 3)), (None, routes, (1, 3)),
            (2, None, (1, 3)), (2, routes, None), ((2,), routes, (1, 3)), (2, "ab", (1, 3)), (2, routes, 13),
        ):
            self.check(thing, ("form",))

    def test_length(self):
        self.check((1, (self.ONE, self.OTHER), (1, 3)), ("length",))
        self.check((3, (self.ONE, self.OTHER), (1, 3)), ("length",))
        self.check((2, (self.ONE,), (1, 3)), ("length",))
        self.check((2, (self.ONE, self.OTHER), (1,)), ("length",))
        self.check((1, (), ()), ("length",))
        self.check((500, (), ()), ("length",))

    def test_routes_of_no_form(self):
        for route in (*ANYTHING, list(self.ONE), ("hold", 1), (self.ONE,), ("hold", "say"), ((), ()), ((1, "hold"),)):
            self.check((1, (route,), (1,)), ("route", 0), TALE)
            self.check((2, (self.ONE, route), (1, 3)), ("route", 1))

    def test_steps_of_no_form(self):
        for step in (
            *ANYTHING, ["say", 1], ("say",), ("say", 1, 1), ("say", True), ("say", "1"), ("say", None), ("Say", 1),
            ("say", [1]), (["say"], 1), (None, 1), ("tell", 1), ("", 1), ("say", (1,)),
        ):
            self.check((1, ((("hold", 1), step),), (1,)), ("route", 0), TALE)
            self.check((1, ((step, ("say", 1)),), (1,)), ("route", 0), TALE)
        self.check((1, ((("hold", True), ("say", 1)),), (1,)), ("route", 0), TALE)

    def test_steps_of_no_sentence_with_a_relation(self):
        for j in (-3, -1, 0, 2, 4, 5, 200):
            self.check((2, (self.ONE, (("hold", 3), ("say", j))), (1, 3)), ("route", 1))
            self.check((2, (self.ONE, (("hold", j), ("say", 3))), (1, 3)), ("route", 1))

    def test_steps_that_may_not_be_taken(self):
        self.check((1, ((("say", 1), ("hold", 1)),), (1,)), ("route", 0), TALE)
        self.check((1, ((("say", 1), ("hold", 1)),), (1,)), ("route", 0), TALE, "b", "a")
        self.check((2, (self.ONE, (("hold", 3), ("say", 1))), (1, 3)), ("route", 1))
        back = (("at", "b"), ("back", "a"))
        self.check((1, ((("say", 1), ("hold", 1)),), (1,)), None, back, "a", "b")
        self.check((1, ((("hold", 1), ("say", 1)),), (1,)), ("route", 0), back, "a", "b")
        self.check((1, ((("hold", 1), ("say", 1)),), (1,)), ("route", 0), back, "b", "a")

    def test_steps_of_each_word(self):
        for word, forward in (("then", True), ("later", True), ("back", False), ("earlier", False)):
            tale = (("at", "m"), (word, "n"))
            route = (("hold", 1), ("say", 1)) if forward else (("say", 1), ("hold", 1))
            for a, b in (("m", "n"), ("n", "m")):
                self.check((1, (route,), (1,)), None, tale, a, b)
                self.check((1, (route[::-1],), (1,)), ("route", 0), tale, a, b)
        tale = (("at", "m"), ("with", "n"))
        self.check((1, ((("hold", 1), ("say", 1)),), (1,)), None, tale, "m", "n")
        self.check((1, ((("say", 1), ("hold", 1)),), (1,)), None, tale, "n", "m")
        self.check((1, ((("say", 1), ("hold", 1)),), (1,)), ("route", 0), tale, "m", "n")

    def test_the_second_node_of_a_hold(self):
        for word in ("later", "earlier", "with"):
            tale = (("at", "m"), (word, "x"), ("then", "n"))
            self.check((1, ((("hold", 1), ("hold", 2), ("say", 2)),), (2,)), None, tale, "m", "n")
            self.check((1, ((("hold", 2), ("say", 2)),), (2,)), ("route", 0), tale, "m", "n")
        for word in ("at", "then", "back"):
            tale = (("at", "x"), (word, "m"), ("then", "n"))
            self.check((1, ((("hold", 2), ("say", 2)),), (2,)), None, tale, "m", "n")

    def test_ends(self):
        tale = chain("then", "abc")
        self.check((1, ((("hold", 1), ("say", 1)),), (1,)), ("route", 0), tale, "a", "c")
        self.check((1, ((("hold", 2), ("say", 2)),), (1,)), ("route", 0), tale, "a", "c")
        self.check((1, ((("hold", 1), ("say", 1), ("hold", 2), ("say", 2)),), (1,)), None, tale, "a", "c")
        self.check((1, ((),), (1,)), ("route", 0), tale, "a", "c")
        self.check((1, ((("hold", 1),),), (1,)), ("route", 0), TALE)
        self.check((2, (self.ONE, ()), (1, 3)), ("route", 1))

    def test_shared_in_two_routes(self):
        self.check((2, (self.ONE, self.ONE), (1, 3)), ("shared", 1))
        self.check((2, (self.OTHER, self.OTHER), (1, 3)), ("shared", 3))
        tale = TWICE + (("at", "a"), ("then", "b"))
        third = (("hold", 5), ("say", 5))
        self.check((4, (third, third, self.OTHER, self.OTHER), (1, 2, 3, 5)), ("shared", 3), tale)

    def test_shared_within_one_route(self):
        there_and_back = (("hold", 1), ("hold", 1), ("hold", 1), ("say", 1))
        self.check((1, (there_and_back,), (1,)), ("shared", 1), TALE)
        self.check((2, (self.OTHER, there_and_back), (1, 3)), ("shared", 1))
        # Two "say" steps of one sentence are no matter.
        tale = (("at", "a"), ("with", "b"))
        self.check((1, ((("hold", 1), ("say", 1), ("say", 1), ("say", 1)),), (1,)), None, tale)

    def test_places(self):
        routes = (self.ONE, self.OTHER)
        for place in (*ANYTHING, -1, 4, 200, "1", (1,)):
            if type(place) is not int or not 1 <= place <= 3:
                self.check((2, routes, (place, 3)), ("place", 0))
                self.check((2, routes, (1, place)), ("place", 1))
        self.check((2, routes, (3, 1)), ("place", 1))
        self.check((2, routes, (3, 3)), ("place", 1))
        self.check((2, routes, (True, 3)), ("place", 0))
        self.check((2, routes, (0, 4)), ("place", 0))

    def test_open(self):
        self.check((2, (self.ONE, self.OTHER), (1, 2)), ("open",))
        self.check((2, (self.ONE, self.OTHER), (2, 3)), ("open",))
        self.check((1, (self.ONE,), (1,)), ("open",))

    def test_other_places(self):
        tale = chain("then", "abcd")
        route = tuple(step for j in (1, 2, 3) for step in (("hold", j), ("say", j)))
        for place in (1, 2, 3):
            self.check((1, (route,), (place,)), None, tale, "a", "d")

    def test_other_routes(self):
        tale = (("at", "a"), ("then", "b"), ("at", "a"), ("later", "c"), ("at", "c"), ("then", "b"), ("at", "b"), ("then", "d"))
        last = (("hold", 7), ("say", 7))
        for route in (self.ONE, (("hold", 3), ("say", 3), ("hold", 5), ("say", 5))):
            self.check((1, (route + last,), (7,)), None, tale, "a", "d")

    def test_two_problems_at_once(self):
        self.check([1, (), (0,)], ("form",))
        self.check((0, (None,), ()), ("form",))
        self.check((1, (None, None), (0,)), ("length",))
        self.check((2, (None, self.ONE), (0, 0)), ("route", 0))
        self.check((2, (self.ONE, None), (0, 0)), ("route", 1))
        self.check((2, (self.ONE, self.ONE), (0, 0)), ("shared", 1))
        self.check((2, (self.ONE, self.OTHER), (2, 1)), ("place", 1))

    def test_drawn_things(self):
        source = random.Random(293)
        problems = {}
        for tale in small_tales():
            for a, b in itertools.permutations(plain_moments(tale), 2):
                if not plain_known(tale, a, b):
                    continue
                many, routes, places = explain_safety(tale, a, b)
                for thing in (
                    (many, routes[::-1], places), (many, routes, places[::-1]), (many, routes[:1] * many, places),
                    (many, routes, tuple(sorted(source.sample(range(1, len(tale)), many)))),
                    (many + 1, routes + routes[:1], places + (len(tale) - 1,)),
                    (many, tuple(route + (("hold", 1), ("hold", 1)) for route in routes), places),
                    (many, tuple(route[1:] for route in routes), places),
                ):
                    problem = plain_check(tale, a, b, thing)
                    self.assertEqual(check_safety(tale, a, b, thing), problem, (tale, a, b, thing))
                    kind = problem and problem[0]
                    problems[kind] = problems.get(kind, 0) + 1
        self.assertEqual(set(problems), {None, "route", "shared", "place", "open"})
        self.assertGreater(min(problems.values()), 5)


class FragileTests(unittest.TestCase):
    def fragile(self, tale, found):
        with self.subTest(tale=tale):
            self.assertEqual(fragile_places(tale), found)

    def test_example(self):
        self.fragile((("at", "a"), ("then", "b"), ("then", "c")), [(1, 2), (2, 2)])

    def test_no_places(self):
        self.fragile((), [])
        self.fragile((("at", "a"),), [])
        self.fragile(chain("at", "abc"), [])

    def test_places_without_effect_are_left_out(self):
        self.fragile(chain("then", "ab") * 2, [])
        self.fragile(chain("then", "ab") + chain("then", "cd"), [(1, 1), (3, 1)])

    def test_each_pair_counts_once(self):
        self.fragile(chain("with", "abcd"), [(1, 3), (2, 4), (3, 3)])
        self.fragile(chain("then", "abcd"), [(1, 3), (2, 4), (3, 3)])
        self.fragile(chain("back", "abcd"), [(1, 3), (2, 4), (3, 3)])
        self.fragile((("at", "a"), ("later", "b"), ("later", "c")), [(1, 2), (2, 1)])

    def test_drawn_tales_against_all_places_and_pairs(self):
        many = 0
        for tale in small_tales() + drawn_tales(297, 60, 14):
            expected = []
            for place in range(1, len(tale)):
                dozed = dozed_tale(tale, [place])
                lost = 0
                for a, b in itertools.combinations(plain_moments(tale), 2):
                    lost += relation(tale, a, b) != "unknown" and relation(dozed, a, b) == "unknown"
                    self.assertEqual(plain_known(dozed, a, b), relation(dozed, a, b) != "unknown")
                if lost:
                    expected.append((place, lost))
            self.assertEqual(fragile_places(tale), expected, tale)
            many += len(expected)
        self.assertGreater(many, 200)

    def test_a_list_that_is_changed_has_no_effect(self):
        found = fragile_places(TALE)
        self.assertEqual((type(found), type(found[0])), (list, tuple))
        found.clear()
        self.fragile(TALE, [(1, 1)])


class ErrorTests(unittest.TestCase):
    CALLS = ((safety, ()), (explain_safety, ()), (check_safety, (None,)), (check_safety, ((1, ((),), (1,)),)))

    def test_unknown_moments(self):
        for thing in (*ANYTHING, "z", ("at", "a")):
            for call, more in self.CALLS:
                for given in ((thing, "a"), ("a", thing), (thing, thing), (thing, "q")):
                    assert_raises(self, UnknownMoment, "name", thing, call, TWICE, *given, *more)

    def test_invalid_tale_comes_before_unknown_moments(self):
        for tale, problem in BAD_TALES:
            for call, more in self.CALLS:
                assert_raises(self, InvalidTale, "problem", problem, call, tale, "q", None, *more)
            assert_raises(self, InvalidTale, "problem", problem, fragile_places, tale)

    def test_unknown_moments_come_before_nothing_known(self):
        for call, more in self.CALLS[1:]:
            assert_raises(self, UnknownMoment, "name", "q", call, (("at", "a"), ("at", "b")), "q", "q", *more)
            assert_raises(self, UnknownMoment, "name", "q", call, (), "q", "r", *more)

    def test_routes_lead_where_the_relation_leads(self):
        for a, b in (("a", "b"), ("b", "a")):
            self.assertTrue(plain_reaches(TALE, "a", "b"))
            self.assertTrue(plain_is_route(TALE, "a", "b", explain_safety(TALE, a, b)[1][0]))


if __name__ == "__main__":
    unittest.main()
