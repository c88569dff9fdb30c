"""Point 4: within the limits every call returns within a few seconds, with the right result."""

import math
import random
import unittest

from backthen import counts, evidence, orders, ranking, tales
from backthen.errors import InvalidText
from tests.helper import (
    assert_quick, assert_raises, chain, drawn_forests, drawn_pairs, layers, limit_tales, many_names, padded, zigzag,
)

NAMES = many_names(60)
SINGLES = [(name,) for name in NAMES]


class LimitTests(unittest.TestCase):
    def test_the_tales_are_at_the_limits(self):
        for name, tale in limit_tales().items():
            with self.subTest(name):
                self.assertEqual(len(tale), 200)
                self.assertEqual(len(tales.moments(tale)), 60)

    def test_every_call_is_quick(self):
        for name, tale in limit_tales().items():
            with self.subTest(name):
                self.assertIsNone(assert_quick(self, tales.check_tale, tale))
                lines = assert_quick(self, tales.format_tale, tale)
                self.assertEqual(assert_quick(self, tales.parse_tale, lines), tale)
                self.assertEqual(len(assert_quick(self, tales.stands, tale)), 200)
                groups = assert_quick(self, orders.groups, tale)
                covers = assert_quick(self, orders.covers, tale)
                components = assert_quick(self, orders.components, tale)
                rank = len(covers) - len(groups) + len(components)
                self.assertEqual(assert_quick(self, orders.cycle_rank, tale), rank)
                assert_quick(self, orders.relation, tale, NAMES[0], NAMES[59])
                line = assert_quick(self, orders.first_timeline, tale)
                self.assertIsNone(assert_quick(self, orders.check_timeline, tale, line))

    def test_long_chains(self):
        told = limit_tales()
        for name in ("forward", "rewound"):
            self.assertEqual(orders.covers(told[name]), list(zip(SINGLES, SINGLES[1:])))
            self.assertEqual(orders.first_timeline(told[name]), tuple(SINGLES))
            self.assertEqual(orders.relation(told[name], NAMES[59], NAMES[0]), "after")
        self.assertEqual(orders.first_timeline(told["backward"]), tuple(SINGLES[::-1]))
        self.assertEqual(orders.relation(told["backward"], NAMES[59], NAMES[0]), "before")
        self.assertEqual(orders.components(told["backward"]), [SINGLES])
        self.assertEqual(orders.check_timeline(told["backward"], tuple(SINGLES)), ("order", SINGLES[1], SINGLES[0]))

    def test_one_group_and_many(self):
        told = limit_tales()
        self.assertEqual(orders.groups(told["together"]), [tuple(NAMES)])
        self.assertEqual(orders.components(told["apart"]), [[group] for group in SINGLES])

    def test_layers(self):
        tale = limit_tales()["layers"]
        self.assertEqual(len(orders.covers(tale)), 4 * 36)
        self.assertEqual(orders.cycle_rank(tale), 4 * 36 - 60 + 31)

    def test_cycles_at_the_limits(self):
        forward = padded(chain("then", NAMES), 198) + (("at", NAMES[59]),)
        for last in (("then", NAMES[0]), ("with", NAMES[0]), ("later", NAMES[59])):
            self.assertEqual(assert_quick(self, tales.check_tale, forward + (last,)), ("cycle", 199))
        early = (("at", "z"), ("then", "z")) + limit_tales()["drawn"]
        self.assertEqual(assert_quick(self, tales.check_tale, early), ("cycle", 1))

    def test_things_of_500_items(self):
        names = many_names(500)
        self.assertIsNone(assert_quick(self, tales.check_tale, chain("back", names)))
        ring = chain("then", names[:499]) + (("then", names[0]),)
        self.assertEqual(assert_quick(self, tales.check_tale, ring), ("cycle", 499))
        self.assertEqual(assert_quick(self, tales.check_tale, (("at", "a"),) * 499 + (None,)), ("sentence", 499))
        self.assertIsNone(assert_quick(self, tales.check_tale, chain("with", names)))
        line = (*SINGLES, *[["b"]] * 440)
        self.assertEqual(assert_quick(self, orders.check_timeline, limit_tales()["apart"], line), ("group", 60))

    def test_texts_of_300_lines(self):
        lines = ["#" + " " * 59, " " * 60] * 50 + [f"at{' ' * 54}{NAMES[k % 60]} " for k in range(200)]
        self.assertEqual(len(lines), 300)
        self.assertEqual({len(line) for line in lines}, {60})
        self.assertEqual(len(assert_quick(self, tales.parse_tale, lines)), 200)
        lines[299] = "at" + "a" * 58
        assert_raises(self, InvalidText, "line", 300, tales.parse_tale, lines)

    def test_evidence(self):
        for name, tale in limit_tales().items():
            for a, b in ((NAMES[0], NAMES[59]), (NAMES[59], NAMES[0]), (NAMES[0], NAMES[29]), (NAMES[30], NAMES[31])):
                with self.subTest(name, a=a, b=b):
                    found = assert_quick(self, evidence.explain_relation, tale, a, b)
                    self.assertEqual(found[0], orders.relation(tale, a, b))
                    self.assertIsNone(assert_quick(self, evidence.check_explanation, tale, a, b, found))

    def test_long_evidence(self):
        told = limit_tales()
        steps = tuple(range(1, 60))
        self.assertEqual(evidence.explain_relation(told["rewound"], NAMES[0], NAMES[59]), ("before", steps))
        self.assertEqual(evidence.explain_relation(told["backward"], NAMES[0], NAMES[59]), ("after", steps[::-1]))
        self.assertEqual(evidence.explain_relation(told["together"], NAMES[7], NAMES[9]), ("same", (7, 9)))
        swapped = (*SINGLES[:30], *SINGLES[31:], SINGLES[30])
        found = evidence.explain_relation(told["apart"], NAMES[30], NAMES[59])
        self.assertEqual(found, ("unknown", tuple(SINGLES), swapped))
        thing = ("same", (7,) * 499 + (9,))
        self.assertIsNone(assert_quick(self, evidence.check_explanation, told["together"], NAMES[7], NAMES[9], thing))

    def check_counts(self, tale):
        """All functions of point 8 come quickly, and fit together."""
        total = assert_quick(self, counts.count_timelines, tale)
        for a, b in ((NAMES[0], NAMES[11]), (NAMES[11], NAMES[0]), (NAMES[5], NAMES[6])):
            row = assert_quick(self, counts.place_counts, tale, a)
            self.assertEqual(sum(row), total)
            assert_quick(self, counts.mean_place, tale, a)
            n, of = assert_quick(self, counts.share, tale, a, b)
            back, _ = counts.share(tale, b, a)
            self.assertEqual(n + back, of)
        return total

    def test_counts_of_twelve_groups(self):
        source = random.Random(127)
        tales = [chain("at", NAMES[:12]), layers([NAMES[:6], NAMES[6:12]]), zigzag(NAMES[:12])]
        for tale in tales + [drawn_pairs(source, NAMES[:12], many) for many in (6, 12, 94)]:
            tale = padded(tale, 200)
            total = self.check_counts(tale)
            self.check_ranks(tale, total)
            assert_quick(self, ranking.middle_pair, tale)

    def test_counts_of_sixty_groups(self):
        tales = [chain(word, NAMES) for word in ("at", "then", "later", "earlier")] + [zigzag(NAMES)]
        for tale in tales + drawn_forests(131, (60, 60)):
            tale = padded(tale, 200)
            self.check_counts(tale)
            for a, b in ((NAMES[0], NAMES[59]), (NAMES[59], NAMES[0])):
                terms = assert_quick(self, counts.share_terms, tale, a, b)
                self.assertIsNone(assert_quick(self, counts.check_share_terms, tale, a, b, terms))
        self.assertEqual(len(counts.share_terms(chain("then", NAMES), NAMES[0], NAMES[59])), 59)
        self.assertEqual(counts.count_timelines(padded(chain("at", NAMES), 200)), math.factorial(60))

    def check_ranks(self, tale, total):
        """The ends and the middle of all timelines come quickly, with their ranks."""
        for k in (0, total // 2, total - 1):
            line = assert_quick(self, ranking.nth_timeline, tale, k)
            self.assertEqual(assert_quick(self, ranking.timeline_rank, tale, line), k)

    def test_ranks_of_forty_groups(self):
        tales = [chain(word, NAMES[:40]) for word in ("at", "then", "later", "earlier")] + [zigzag(NAMES[:40])]
        for tale in tales + drawn_forests(137, (40, 40)):
            tale = padded(tale, 200)
            self.check_ranks(tale, counts.count_timelines(tale))


if __name__ == "__main__":
    unittest.main()
