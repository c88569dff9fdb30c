"""Point 4 for points 10 to 12: roads, reports and safety at the limits, each call within a few seconds."""

import random
import unittest

from backthen import orders, reports, roads, safety
from backthen.errors import NoRoad, NothingKnown
from tests.helper import (
    assert_plain, assert_quick, chain, drawn_pairs, layers, limit_tales, many_names, padded, plain_fresh, plain_heard,
)

NAMES = many_names(60)
SINGLES = tuple((name,) for name in NAMES)


def two_chains(seed):
    """A tale of two chains of 30 moments with drawn relations between their neighbourhoods."""
    source = random.Random(seed)
    tale = chain("then", NAMES[::2]) + chain("then", NAMES[1::2])
    while len(tale) < 199:
        one = source.randrange(58)
        tale += (("at", NAMES[one]), ("later", NAMES[min(59, one + source.choice((1, 3, 5)))]))
    return padded(tale, 200)


def road_tales():
    told = {**limit_tales(), "layers of two": padded(layers([NAMES[k:k + 2] for k in range(0, 60, 2)]), 200)}
    told["star"] = padded(chain("earlier", NAMES[:30]) + tuple(("later", name) for name in NAMES[30:]), 200)
    told["drawn pairs"] = drawn_pairs(random.Random(301), NAMES, 70)
    for seed in range(303, 309):
        told[f"two chains {seed}"] = two_chains(seed)
    return told


class RoadTests(unittest.TestCase):
    def test_every_call_is_quick(self):
        words = set()
        for name, tale in road_tales().items():
            with self.subTest(name):
                self.assertEqual((len(tale), len({moment for _, moment in tale})), (200, 60))
                thing = assert_quick(self, roads.find_road, tale)
                words.add(thing[0])
                self.assertLessEqual(len(thing[1]), 500)
                self.assertIsNone(assert_quick(self, roads.check_road, tale, thing))
                if thing[0] == "none":
                    assert_plain(self, NoRoad, roads.straight_tale, tale)
                    self.assertIn(thing[1][0], thing[1][1::2])
                else:
                    told = assert_quick(self, roads.straight_tale, tale)
                    self.assertEqual(orders.groups(told), orders.groups(tale))
                    self.assertEqual(orders.covers(told), orders.covers(tale))
        self.assertEqual(words, {"road", "none"})

    def test_long_roads(self):
        told = road_tales()
        self.assertEqual(roads.find_road(told["forward"]), ("road", SINGLES[1::2]))
        self.assertEqual(roads.find_road(told["backward"]), ("road", SINGLES[:0:-2]))
        self.assertEqual(roads.find_road(told["star"]), ("road", SINGLES[:1]))
        self.assertEqual(roads.straight_tale(told["star"]), told["star"][:60])
        self.assertEqual(roads.find_road(told["together"]), ("road", (tuple(NAMES),)))
        for name in ("apart", "layers", "layers of two"):
            self.assertEqual(roads.find_road(told[name])[0], "none")

    def test_things_of_500_items(self):
        told = road_tales()
        names = SINGLES * 8
        self.assertEqual(assert_quick(self, roads.check_road, told["forward"], ("road", names)), ("chain", 59))
        pair = (SINGLES[0], SINGLES[1], SINGLES[1], SINGLES[0])
        walk = (pair * 125)[:499]
        self.assertEqual(assert_quick(self, roads.check_road, told["apart"], ("none", walk[:497])), None)
        self.assertEqual(assert_quick(self, roads.check_road, told["apart"], ("none", walk)), ("ends",))
        self.assertEqual(assert_quick(self, roads.check_road, told["forward"], ("none", walk[:497])), ("walk", 1))
        self.assertEqual(assert_quick(self, roads.check_road, told["apart"], ("none", walk + (0,))), ("group", 499))


class ReportTests(unittest.TestCase):
    def test_reports_of_200_items(self):
        for name, tale in limit_tales().items():
            for step in (1, 2, 50):
                report = tuple((1 + k * step, sentence) for k, sentence in enumerate(tale))
                with self.subTest(name, step=step):
                    self.assertIsNone(assert_quick(self, reports.check_report, report))
                    heard = assert_quick(self, reports.heard_tale, report)
                    self.assertEqual(heard, plain_heard(report))
                    self.assertEqual(assert_quick(self, reports.merge_reports, [report] * 6), report)
                    self.assertEqual(assert_quick(self, reports.gain, [report] * 6), [])

    def test_tales_of_200_sentences(self):
        for name, tale in limit_tales().items():
            for step in (1, 2):
                report = tuple(enumerate(tale, 1))[::step]
                with self.subTest(name, step=step):
                    self.assertIsNone(assert_quick(self, reports.check_fit, report, tale))
                    found = assert_quick(self, reports.gap_stands, report, tale)
                    gaps = 0 if step == 1 else 99
                    self.assertEqual(list(found), plain_fresh([sentence for _, sentence in report], gaps))

    def test_lists_of_six_reports(self):
        for name, tale in limit_tales().items():
            items = tuple(enumerate(tale, 1))
            for parts in ([items[k::6] for k in range(6)], [items[max(0, 33 * k - 9):33 * k + 35] for k in range(6)]):
                with self.subTest(name):
                    self.assertEqual(assert_quick(self, reports.merge_reports, parts), items)
                    found = assert_quick(self, reports.gain, parts)
                    self.assertEqual(found, sorted(found))
        parts = [tuple(enumerate(chain("then", NAMES), 1))[k::6] for k in range(6)]
        pairs = [(a, b) for k, a in enumerate(NAMES) for b in NAMES[k + 1:]]
        self.assertEqual(assert_quick(self, reports.gain, parts), pairs)

    def test_cycles_at_the_limits(self):
        report = tuple((2 + 2 * k, ("then", NAMES[k % 60])) for k in range(198))
        last = ((9998, ("at", "a")), (9999, ("then", "a")))
        self.assertEqual(assert_quick(self, reports.check_report, report + last), ("cycle", 199))

    def test_things_of_500_items(self):
        names = many_names(500)
        for step in (1, 20):
            thing = tuple((2 + step * k, ("then", name)) for k, name in enumerate(names))
            self.assertIsNone(assert_quick(self, reports.check_report, thing))
            self.assertEqual(assert_quick(self, reports.check_report, thing[:499] + (None,)), ("item", 499))
            last = (thing[-1][0], ("then", names[497]))
            self.assertEqual(reports.check_report(thing[:499] + (last,)), None if step == 20 else ("cycle", 499))


class SafetyTests(unittest.TestCase):
    def check_pair(self, tale, a, b):
        many = assert_quick(self, safety.safety, tale, a, b)
        if many:
            thing = assert_quick(self, safety.explain_safety, tale, a, b)
            self.assertEqual(thing[0], many)
            self.assertIsNone(assert_quick(self, safety.check_safety, tale, a, b, thing))
        else:
            assert_plain(self, NothingKnown, safety.explain_safety, tale, a, b)

    def test_every_call_is_quick(self):
        told = {**limit_tales(), "two chains": two_chains(311)}
        for name, tale in told.items():
            for a, b in ((NAMES[0], NAMES[59]), (NAMES[59], NAMES[0]), (NAMES[0], NAMES[1]), (NAMES[5], NAMES[40])):
                with self.subTest(name, a=a, b=b):
                    self.check_pair(tale, a, b)
            found = assert_quick(self, safety.fragile_places, tale)
            self.assertEqual(found, sorted(found))

    def test_dozed_everywhere(self):
        for name, tale in limit_tales().items():
            dozed = assert_quick(self, safety.dozed_tale, tale, list(range(1, 200)))
            self.assertEqual(dozed[::2][1:], tale[1:])
            self.assertEqual([moment for _, moment in dozed[1::2]], plain_fresh(tale, 199))

    def test_a_hundred_routes(self):
        tale = (("at", "a"), ("then", "b")) * 100
        self.assertEqual(assert_quick(self, safety.safety, tale, "a", "b"), 100)
        many, routes, places = assert_quick(self, safety.explain_safety, tale, "b", "a")
        self.assertEqual((many, places), (100, tuple(range(1, 200, 2))))
        self.assertEqual(sorted(routes), [(("hold", j), ("say", j)) for j in range(1, 200, 2)])
        self.assertIsNone(assert_quick(self, safety.check_safety, tale, "a", "b", (many, routes, places)))

    def test_many_routes_through_a_middle(self):
        tale = ()
        for k in range(1, 50):
            tale += (("at", "a"), ("with", NAMES[k]), ("at", NAMES[50 - k]), ("then", "b"))
        self.assertEqual(assert_quick(self, safety.safety, tale, "a", "b"), 49)
        thing = assert_quick(self, safety.explain_safety, tale, "a", "b")
        self.assertIsNone(assert_quick(self, safety.check_safety, tale, "a", "b", thing))

    def test_a_route_through_all_places(self):
        tale = (("at", "a"),) + (("later", "b"),) * 198 + (("later", "c"),)
        holds = tuple(("hold", j) for j in range(1, 200))
        thing = (1, (holds + (("say", 199),),), (77,))
        self.assertIsNone(assert_quick(self, safety.check_safety, tale, "a", "c", thing))
        self.assertEqual(assert_quick(self, safety.explain_safety, tale, "a", "c")[1], thing[1])

    def test_fragile_places_of_a_line(self):
        found = assert_quick(self, safety.fragile_places, padded(chain("then", NAMES), 200))
        self.assertEqual(found, [(place, place * (60 - place)) for place in range(1, 60)])

    def test_things_of_500_items(self):
        tale = (("at", "a"), ("with", "b"))
        long = (("hold", 1),) + (("say", 1),) * 499
        self.assertIsNone(assert_quick(self, safety.check_safety, tale, "a", "b", (1, (long,), (1,))))
        self.assertEqual(safety.check_safety(tale, "a", "b", (500, (long,) * 500, (1,) * 500)), ("shared", 1))
        wrong = (500, (long,) * 499 + (None,), (1,) * 500)
        self.assertEqual(assert_quick(self, safety.check_safety, tale, "a", "b", wrong), ("route", 499))


if __name__ == "__main__":
    unittest.main()
