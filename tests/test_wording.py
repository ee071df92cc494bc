"""[15], [16]: words, where they stand, and which of them are numbers."""

import unittest

from saidbetween.wording import end_of, is_number, words_of


class WordingTest(unittest.TestCase):

    def test_only_blanks_and_line_feeds_part_words(self):
        self.assertEqual(words_of("a b\nc"), [(0, 0, "a"), (0, 1, "b"), (1, 0, "c")])
        for sign in ("\t", "\r", "\v", "\f", "\x1c", "\x85", "\u00a0", "\u2028", ",", "{", "\0"):
            self.assertEqual(words_of("a" + sign + "b"), [(0, 0, "a" + sign + "b")])
            self.assertEqual(words_of(sign), [(0, 0, sign)])
            self.assertEqual(end_of(sign + sign), (0, 1))

    def test_lines_without_words_count(self):
        self.assertEqual(words_of("\n \n  a   b \n\n c\n"),
                         [(2, 0, "a"), (2, 1, "b"), (4, 0, "c")])
        self.assertEqual(words_of(""), [])
        self.assertEqual(words_of(" \n \n"), [])

    def test_ends(self):
        for text, end in (("", (0, 0)), (" ", (0, 0)), ("a", (0, 1)), ("a b ", (0, 2)),
                          ("a\n", (1, 0)), ("a\n\n", (2, 0)), ("\na b\nc d e", (2, 3)),
                          ("a\n  ", (1, 0))):
            self.assertEqual(end_of(text), end)

    def test_numbers(self):
        for word in ("0", "1", "9", "10", "100", "12345678", "123456789", "999999999", "100000000"):
            self.assertIs(is_number(word), True, word)
        for word in ("", "00", "01", "000000000", "0000000001", "1234567890", "1000000000", "-1",
                     "+1", "-0", "1.", "1.0", "1_0", "0x1", "1a", "a", " 1", "1 ", "1\t", "\t",
                     "\u0661", "\u00b2", "1\u0662", "\uff11", "\u2460", "1,", "(", "9" * 5000):
            self.assertIs(is_number(word), False, word)


if __name__ == "__main__":
    unittest.main()
