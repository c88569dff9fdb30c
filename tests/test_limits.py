"""Point 4: within the limits every call returns within a few seconds, with the right result."""

import unittest

from backthen import orders, tales
from backthen.errors import InvalidText
from tests.helper import assert_quick, assert_raises, chain, limit_tales, many_names, padded

NAMES = many_names(60)
SINGLES = [(name,) for name in NAMES]


class LimitTests(unittest.TestCase):
    def test_the_tales_are_at_the_limits(self):
        for name, tale in limit_tales().items():
            with self.subTest(name):
                self.assertEqual(len(tale), 200)
                self.assertEqual(len(tales.moments(tale)), 60)

    def test_every_call_is_quick(self):
        for name, tale in limit_tales().items():
            with self.subTest(name):
                self.assertIsNone(assert_quick(self, tales.check_tale, tale))
                lines = assert_quick(self, tales.format_tale, tale)
                self.assertEqual(assert_quick(self, tales.parse_tale, lines), tale)
                self.assertEqual(len(assert_quick(self, tales.stands, tale)), 200)
                groups = assert_quick(self, orders.groups, tale)
                covers = assert_quick(self, orders.covers, tale)
                components = assert_quick(self, orders.components, tale)
                rank = len(covers) - len(groups) + len(components)
                self.assertEqual(assert_quick(self, orders.cycle_rank, tale), rank)
                assert_quick(self, orders.relation, tale, NAMES[0], NAMES[59])
                line = assert_quick(self, orders.first_timeline, tale)
                self.assertIsNone(assert_quick(self, orders.check_timeline, tale, line))

    def test_long_chains(self):
        told = limit_tales()
        for name in ("forward", "rewound"):
            self.assertEqual(orders.covers(told[name]), list(zip(SINGLES, SINGLES[1:])))
            self.assertEqual(orders.first_timeline(told[name]), tuple(SINGLES))
            self.assertEqual(orders.relation(told[name], NAMES[59], NAMES[0]), "after")
        self.assertEqual(orders.first_timeline(told["backward"]), tuple(SINGLES[::-1]))
        self.assertEqual(orders.relation(told["backward"], NAMES[59], NAMES[0]), "before")
        self.assertEqual(orders.components(told["backward"]), [SINGLES])
        self.assertEqual(orders.check_timeline(told["backward"], tuple(SINGLES)), ("order", SINGLES[1], SINGLES[0]))

    def test_one_group_and_many(self):
        told = limit_tales()
        self.assertEqual(orders.groups(told["together"]), [tuple(NAMES)])
        self.assertEqual(orders.components(told["apart"]), [[group] for group in SINGLES])

    def test_layers(self):
        tale = limit_tales()["layers"]
        self.assertEqual(len(orders.covers(tale)), 4 * 36)
        self.assertEqual(orders.cycle_rank(tale), 4 * 36 - 60 + 31)

    def test_cycles_at_the_limits(self):
        forward = padded(chain("then", NAMES), 198) + (("at", NAMES[59]),)
        for last in (("then", NAMES[0]), ("with", NAMES[0]), ("later", NAMES[59])):
            self.assertEqual(assert_quick(self, tales.check_tale, forward + (last,)), ("cycle", 199))
        early = (("at", "z"), ("then", "z")) + limit_tales()["drawn"]
        self.assertEqual(assert_quick(self, tales.check_tale, early), ("cycle", 1))

    def test_things_of_500_items(self):
        names = many_names(500)
        self.assertIsNone(assert_quick(self, tales.check_tale, chain("back", names)))
        ring = chain("then", names[:499]) + (("then", names[0]),)
        self.assertEqual(assert_quick(self, tales.check_tale, ring), ("cycle", 499))
        self.assertEqual(assert_quick(self, tales.check_tale, (("at", "a"),) * 499 + (None,)), ("sentence", 499))
        self.assertIsNone(assert_quick(self, tales.check_tale, chain("with", names)))
        line = (*SINGLES, *[["b"]] * 440)
        self.assertEqual(assert_quick(self, orders.check_timeline, limit_tales()["apart"], line), ("group", 60))

    def test_texts_of_300_lines(self):
        lines = ["#" + " " * 59, " " * 60] * 50 + [f"at{' ' * 54}{NAMES[k % 60]} " for k in range(200)]
        self.assertEqual(len(lines), 300)
        self.assertEqual({len(line) for line in lines}, {60})
        self.assertEqual(len(assert_quick(self, tales.parse_tale, lines)), 200)
        lines[299] = "at" + "a" * 58
        assert_raises(self, InvalidText, "line", 300, tales.parse_tale, lines)


if __name__ == "__main__":
    unittest.main()
