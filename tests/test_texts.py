"""Point 5: parse_tale and format_tale."""

import copy
import unittest

from backthen.errors import InvalidTale, InvalidText
from backthen.tales import format_tale, parse_tale
from tests.helper import ANYTHING, WORDS, assert_raises, drawn_tales, limit_tales


class ParseTests(unittest.TestCase):
    def bad_line(self, lines, line):
        kept = copy.deepcopy(lines)
        assert_raises(self, InvalidText, "line", line, parse_tale, lines)
        self.assertEqual(lines, kept)

    def test_examples(self):
        self.assertEqual(parse_tale(["at a", "", "then  b"]), (("at", "a"), ("then", "b")))
        self.bad_line(["at a", "then"], 2)

    def test_each_word(self):
        for word in WORDS:
            tale = (("at", "a"), (word, "b"))
            self.assertEqual(parse_tale(["at a", f"{word} b"]), tale)

    def test_kinds_of_what_is_returned(self):
        tale = parse_tale(["at a", "with b"])
        self.assertIs(type(tale), tuple)
        self.assertEqual([type(sentence) for sentence in tale], [tuple, tuple])

    def test_texts_without_a_sentence(self):
        for lines in ([], [""], ["   ", "", "#"], ["# at a", "   # then", "#at a"]):
            self.assertEqual(parse_tale(lines), ())

    def test_spaces(self):
        self.assertEqual(parse_tale(["   at    a  ", " then b", "with c   "]),
                         (("at", "a"), ("then", "b"), ("with", "c")))
        self.bad_line(["ata"], 1)
        self.bad_line(["at a a"], 1)
        self.bad_line(["at a b"], 1)
        self.bad_line(["a t a"], 1)

    def test_skipped_lines_are_counted(self):
        self.bad_line(["", "# note", "  ", "at a", "  #", "then"], 6)
        self.bad_line(["", "at"], 2)
        self.assertEqual(parse_tale(["", "#", "at a", " # at b", "then c"]), (("at", "a"), ("then", "c")))

    def test_number_sign_elsewhere_is_an_ordinary_character(self):
        self.bad_line(["at a # note"], 1)
        self.bad_line(["at a", "then #b"], 2)
        self.bad_line(["at a#"], 1)

    def test_tabs_and_newlines_are_ordinary_characters(self):
        for line in ("at\ta", "at a\t", "\tat a", "at\na", "at a\n", "\nat a", "at a\r", "at \t a", "\t", "\n", "\t# a"):
            with self.subTest(line=line):
                self.bad_line([line], 1)
                self.bad_line(["at a", line], 2)
        self.assertEqual(parse_tale(["#\tat a\n", " #\n"]), ())

    def test_lines_that_hold_no_sentence(self):
        for line in ("at", "a", "At a", "at A", "at a1", "at abcdefghi", "before a", "('at', 'a')", "a at"):
            with self.subTest(line=line):
                self.bad_line([line, "none"], 1)

    def test_no_list_of_strings(self):
        for thing in ANYTHING:
            if thing not in ([], ["a"], ["at", "a"]):
                self.bad_line(thing, 0)
        self.bad_line(("at a",), 0)
        self.bad_line("at a", 0)

    def test_no_string_in_a_list_comes_before_a_bad_line(self):
        for item in ANYTHING:
            if not isinstance(item, str):
                with self.subTest(item=item):
                    self.bad_line(["bad", "at a", item], 0)
                    self.bad_line([item, "bad"], 0)

    def test_invalid_tales(self):
        invalid = (
            (["then a"], ("sentence", 0)),
            (["", "# x", " with a"], ("sentence", 0)),
            (["at a", "then b", "#", "then a"], ("cycle", 2)),
            (["at a", "", "then a", "then a"], ("cycle", 1)),
        )
        for lines, problem in invalid:
            assert_raises(self, InvalidTale, "problem", problem, parse_tale, lines)

    def test_bad_line_before_an_invalid_tale(self):
        self.bad_line(["at a", "then a", "", "bad"], 4)
        self.bad_line(["then a", "bad"], 2)
        self.bad_line(["bad", "then a", "bad"], 1)

    def test_lines_are_not_changed(self):
        lines = ["  at a ", "", "#x"]
        parse_tale(lines)
        self.assertEqual(lines, ["  at a ", "", "#x"])


class FormatTests(unittest.TestCase):
    def test_example(self):
        self.assertEqual(format_tale((("at", "a"), ("then", "b"))), ["at a", "then b"])

    def test_empty_tale(self):
        self.assertEqual(format_tale(()), [])

    def test_each_word(self):
        for word in WORDS:
            self.assertEqual(format_tale((("at", "a"), (word, "b"))), ["at a", f"{word} b"])

    def test_reading_what_was_written(self):
        for tale in drawn_tales(9, 80, 10) + list(limit_tales().values()):
            self.assertEqual(parse_tale(format_tale(tale)), tale)


if __name__ == "__main__":
    unittest.main()
