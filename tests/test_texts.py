"""[15], [16]: texts written and read."""

import itertools
import unittest

from saidbetween.errors import (
    BadFormula, BadParameter, BadQuestion, BadTalk, BadText, BadTree, TooGreat,
)
from saidbetween.texts import (
    formula_text, question_text, read_formula, read_question, read_talk, read_tree, talk_text,
    tree_text,
)
from tests.helpers import (
    all_signs_of, Case, chain, Dice, EXAMPLE, EXAMPLE_FORMULA, EXAMPLE_TALK, full,
    QUESTION_REFUSALS, small_questions, STRANGE, thrown_formula, thrown_question, thrown_talk,
    Touchy,
)
from tests.test_asks import MANY_REFUSALS, thrown_tree, TREE, TREE_REFUSALS
from tests.test_formulas import FORMULA_REFUSALS
from tests.test_talks import TALK_REFUSALS

SIGN = (0, 1)
# All that is told in the texts below can be told in these.
WIDE = (8, all_signs_of(8), (1,), (0,))

QUESTION_ROWS = ["question 2 (", "sign 0 0", "sign 0 1", "sign 1 0", "sign 1 1",
                 ") { 1 2 } { 0 3 }"]
FORMULA_ROWS = ["formula", "  or", "    and", "      sign 0 1", "      sign 1 0", "    sign 1 1"]
TALK_ROWS = ["talk", "  yes { 1 }", "    no { }", "      sign 0 1", "      sign 1 0",
             "    no { 0 3 }", "      sign 1 1", "      sign 0 0"]
TALK = ("yes", (1,), ("no", (), (0, 1), (1, 0)), ("no", (0, 3), (1, 1), (0, 0)))
TREE_ROWS = ["tree", "  ask 0", "    ask 1", "      1", "      0", "    ask 2", "      1",
             "      0"]
WORDS_OF_ALL = ["question", "formula", "talk", "tree", "sign", "or", "and", "yes", "no", "ask",
                "(", ")", "{", "}", "0", "1", "2", "7", "999999999"]


def reading_formula(text):
    return read_formula(WIDE, text)


def reading_talk(text):
    return read_talk(WIDE, text)


def reading_tree(text):
    return read_tree(8, text)


# Each reader with a text of it, word by word, each with the kind of word that is wanted there.
FORMS = [
    (read_question, "question 2 ( sign 0 0 sign 1 1 ) { 1 2 } { 0 3 }", (
        "question", "N", "(", "sign )", "N", "N", "sign )", "N", "N", "sign )", "{", "N }", "N }",
        "N }", "{", "N }", "N }", "N }")),
    (read_question, "question 1 ( ) { 1 } { 0 }",
     ("question", "N", "(", "sign )", "{", "N }", "N }", "{", "N }", "N }")),
    (reading_formula, "formula or and sign 0 1 sign 1 0 sign 1 1", (
        "formula", "sign or and", "sign or and", "sign or and", "N", "N", "sign or and", "N", "N",
        "sign or and", "N", "N")),
    (reading_formula, "formula sign 0 1", ("formula", "sign or and", "N", "N")),
    (reading_talk, "talk yes { 1 } no { } sign 0 1 sign 1 0 sign 1 1", (
        "talk", "sign yes no", "{", "N }", "N }", "sign yes no", "{", "N }", "sign yes no", "N",
        "N", "sign yes no", "N", "N", "sign yes no", "N", "N")),
    (reading_tree, "tree ask 0 ask 7 1 0 1", (
        "tree", "0 1 ask", "N", "0 1 ask", "N", "0 1 ask", "0 1 ask", "0 1 ask")),
    (reading_tree, "tree 0", ("tree", "0 1 ask")),
]
NUMBERS = ("0", "1", "2", "7", "10", "255", "123456789", "999999999")
ODD_WORDS = ("00", "01", "1234567890", "1000000000", "-1", "+1", "1.0", "1_0", "\u0661", "\u00b2",
             "x", "Sign", "signs", "OR", "{}", "}{", "{1}", "()", "sign\t0", "\t", "0\t", "or\r",
             "\u00a0", "N", "number", "numbers", "close", "signs", "lot", "all signs", "")


class WriteTest(Case):

    def test_question(self):
        self.assertEqual(question_text(EXAMPLE), "\n".join(QUESTION_ROWS))
        self.assertEqual(question_text((1, (), (1,), (0,))), "question 1 (\n) { 1 } { 0 }")
        self.assertEqual(question_text((8, ((7, 1),), (0, 10, 255), (100,))),
                         "question 8 (\nsign 7 1\n) { 0 10 255 } { 100 }")

    def test_formula(self):
        formula = ("or", ("and", (0, 1), (1, 0)), (1, 1))
        self.assertEqual(formula_text(EXAMPLE, formula), "\n".join(FORMULA_ROWS))
        self.assertEqual(formula_text(EXAMPLE, (1, 0)), "formula\n  sign 1 0")
        self.assertEqual(formula_text(EXAMPLE, ("and", SIGN, ("or", SIGN, SIGN))), "\n".join(
            ["formula", "  and", "    sign 0 1", "    or", "      sign 0 1", "      sign 0 1"]))

    def test_talk(self):
        self.assertEqual(talk_text(EXAMPLE, TALK), "\n".join(TALK_ROWS))
        self.assertEqual(talk_text(EXAMPLE, (1, 0)), "talk\n  sign 1 0")

    def test_tree(self):
        self.assertEqual(tree_text(3, TREE), "\n".join(TREE_ROWS))
        self.assertEqual(tree_text(1, 0), "tree\n  0")
        self.assertEqual(tree_text(1, 1), "tree\n  1")

    def test_deep_ones(self):
        formula = chain(60, [("or",)], 2, (1, 0), SIGN)
        rows = formula_text(EXAMPLE, formula).split("\n")
        self.assertEqual(len(rows), 122)
        self.assertEqual(rows[-1], "  " * 61 + "sign 1 0")
        self.assertEqual(rows[59 * 2 + 1], "  " * 60 + "or")

    def test_refused_in_order(self):
        self.check_calls(question_text, ("question",), (EXAMPLE,), [QUESTION_REFUSALS])
        self.check_calls(formula_text, ("question", "formula"), (EXAMPLE, EXAMPLE_FORMULA),
                         [QUESTION_REFUSALS, FORMULA_REFUSALS])
        self.check_calls(talk_text, ("question", "talk"), (EXAMPLE, EXAMPLE_TALK),
                         [QUESTION_REFUSALS, TALK_REFUSALS])
        self.check_calls(tree_text, ("many", "tree"), (3, TREE), [MANY_REFUSALS, TREE_REFUSALS])
        self.refused(TooGreat, {"most": 400}, formula_text, EXAMPLE, full(201, ("or",), SIGN))
        self.refused(TooGreat, {"most": 400}, talk_text, EXAMPLE, full(201, ("yes", ()), SIGN))
        self.refused(TooGreat, {"most": 600}, tree_text, 3, full(301, ("ask", 0), 1))


class ThereAndBackTest(Case):

    def test_what_is_written_is_read_as_it_was(self):
        dice = Dice(41)
        questions = small_questions(1) + small_questions(2)[::7]
        questions += [thrown_question(dice, many) for many in range(1, 9)]
        for question in questions:
            self.assertEqual(read_question(question_text(question)), question)
        for many in (1, 2, 3, 5, 8):
            for size in range(1, 12):
                question = thrown_question(dice, many, True)
                formula = thrown_formula(dice, question[1], size)
                self.assertEqual(read_formula(question, formula_text(question, formula)), formula)
                talk = thrown_talk(dice, question, size)
                self.assertEqual(read_talk(question, talk_text(question, talk)), talk)
                tree = thrown_tree(dice, many, size)
                self.assertEqual(read_tree(many, tree_text(many, tree)), tree)

    def test_what_just_keeps_to_the_bounds(self):
        for formula in (full(200, ("and",), SIGN), chain(60, [("or",)], 1, SIGN, SIGN)):
            self.assertEqual(read_formula(EXAMPLE, formula_text(EXAMPLE, formula)), formula)
        for talk in (full(200, ("no", (0, 1, 2, 3)), SIGN), chain(60, [("no", ())], 2, SIGN, SIGN)):
            self.assertEqual(read_talk(EXAMPLE, talk_text(EXAMPLE, talk)), talk)
        for tree in (full(300, ("ask", 1), 0), chain(60, [("ask", 0)], 2, 1, 0)):
            self.assertEqual(read_tree(2, tree_text(2, tree)), tree)

    def test_other_blanks_and_line_feeds(self):
        for reader, text, _ in FORMS:
            words = text.split(" ")
            told = reader(text)
            for gaps in (["\n"], ["  "], [" \n"], ["\n\n "], ["\n", " ", "   ", " \n \n "]):
                other = "".join(gap + word for gap, word in zip(itertools.cycle(gaps), words))
                self.assertEqual(reader(other), told)
                self.assertEqual(reader(other + " \n\n"), told)
                self.assertEqual(reader(other.strip(" \n")), told)

    def test_equal_calls_give_equal_values(self):
        for reader, text, _ in FORMS:
            self.assertEqual(reader(text), reader(text))


def can_stand(wanted, word):
    """Whether a word is of one of the wanted kinds."""
    for kind in wanted.split(" "):
        if kind == word or kind == "N" and word in NUMBERS:
            return True
    return False


class ReadTest(Case):

    def test_no_strings(self):
        for value in STRANGE + [b"formula sign 0 1", ["formula"], ("formula",), 0]:
            if type(value) is not str:
                for reader in (read_question, reading_formula, reading_talk, reading_tree):
                    self.refused(BadText, {"line": 0, "word": 0}, reader, value)

    def test_each_kind_of_word_in_every_place(self):
        for reader, text, wanted in FORMS:
            words = text.split(" ")
            self.assertEqual(len(words), len(wanted))
            for at in range(len(words)):
                for word in WORDS_OF_ALL + list(ODD_WORDS[:-1]):
                    if not can_stand(wanted[at], word):
                        other = words[:at] + [word] + words[at + 1:]
                        self.check_word(reader, other, at)
                        self.check_word(reader, words[:at] + [word], at)
                        self.check_word(reader, words[:at] + [word, "x"], at)
            for word in WORDS_OF_ALL + list(ODD_WORDS[:-1]):
                self.check_word(reader, words + [word], len(words))

    def check_word(self, reader, words, at):
        """Told in one line, in a line each, and in lines of two."""
        if " " in words[at]:
            return
        self.refused(BadText, {"line": 0, "word": at}, reader, " ".join(words))
        self.refused(BadText, {"line": at, "word": 0}, reader, "\n".join(words))
        pairs = [" ".join(words[place:place + 2]) for place in range(0, len(words), 2)]
        self.refused(BadText, {"line": 2 + 2 * (at // 2), "word": at % 2}, reader,
                     "\n \n  " + "  \n\n ".join(pairs) + "\n")

    def test_texts_that_end_too_early(self):
        for reader, text, _ in FORMS:
            words = text.split(" ")
            for count in range(len(words)):
                some = words[:count]
                self.refused(BadText, {"line": 0, "word": count}, reader, " ".join(some))
                self.refused(BadText, {"line": 0, "word": count}, reader, " ".join(some) + "  ")
                self.refused(BadText, {"line": 1, "word": 0}, reader, " ".join(some) + "\n")
                self.refused(BadText, {"line": 3, "word": 0}, reader, " ".join(some) + "\n \n\n ")
                self.refused(BadText, {"line": max(count - 1, 0), "word": min(count, 1)}, reader,
                             "\n".join(some))
                self.refused(BadText, {"line": 1, "word": count}, reader, "\n" + " ".join(some))

    def test_empty_texts(self):
        for reader in (read_question, reading_formula, reading_talk, reading_tree):
            for text, line in (("", 0), (" ", 0), ("\n", 1), ("\n\n", 2), (" \n  \n ", 2)):
                self.refused(BadText, {"line": line, "word": 0}, reader, text)
            for text in ("\t", "\r", "\u00a0", "\x1f", "\u2028"):
                self.refused(BadText, {"line": 0, "word": 0}, reader, text)
                self.refused(BadText, {"line": 1, "word": 0}, reader, "\n" + text)

    def test_only_blanks_and_line_feeds_part_words(self):
        for sign in ("\t", "\r", "\r\n", "\v", "\f", "\x1c", "\x85", "\u00a0", "\u2028", ","):
            for reader, text, _ in FORMS:
                words = text.split(" ")
                for at in range(len(words) - 1):
                    other = " ".join(words[:at + 1]) + sign + " ".join(words[at + 1:])
                    self.refused(BadText, {"line": 0, "word": at}, reader, other)

    def test_numbers(self):
        self.refused(BadFormula, {"place": ()}, reading_formula, "formula sign 123456789 1")
        self.refused(BadFormula, {"place": ()}, reading_formula, "formula sign 0 999999999")
        for word in ("1234567890", "0000000001", "01", "00", "0123456789", "9" * 5000):
            self.refused(BadText, {"line": 0, "word": 2}, reading_formula,
                         "formula sign " + word + " 1")
            self.refused(BadText, {"line": 0, "word": 3}, reading_formula,
                         "formula sign 1 " + word)
            self.refused(BadText, {"line": 0, "word": 3}, reading_talk,
                         "talk yes { " + word + " } sign 0 1 sign 0 1")
            self.refused(BadText, {"line": 0, "word": 2}, reading_tree,
                         "tree ask " + word + " 0 1")
            self.refused(BadText, {"line": 0, "word": 1}, read_question, "question " + word)
        self.refused(BadText, {"line": 0, "word": 1}, reading_tree, "tree 2")
        self.refused(BadText, {"line": 0, "word": 1}, reading_tree, "tree 10")

    def test_right_words_that_tell_what_is_refused(self):
        for text, place in (
            ("question 0 ( ) { 1 } { 0 }", (0,)), ("question 9 ( ) { 1 } { 0 }", (0,)),
            ("question 999999999 ( sign 1 1 ) { } { }", (0,)),
            ("question 1 ( sign 0 1 sign 0 1 ) { 1 } { 0 }", (1, 1)),
            ("question 1 ( sign 1 1 ) { 1 } { 0 }", (1, 0)),
            ("question 1 ( sign 0 2 ) { } { 0 }", (1, 0)),
            ("question 1 ( ) { } { 0 }", (2,)), ("question 1 ( ) { 1 0 } { 0 }", (2,)),
            ("question 1 ( ) { 2 } { 0 }", (2,)), ("question 1 ( ) { 1 } { }", (3,)),
            ("question 1 ( ) { 1 } { 1 }", (3,)), ("question 1 ( ) { 1 } { 0 0 }", (3,)),
        ):
            self.refused(BadQuestion, {"place": place}, read_question, text)
        self.refused(BadFormula, {"place": (2,)}, read_formula, EXAMPLE,
                     "formula or sign 0 1 sign 2 0")
        self.refused(BadFormula, {"place": (1, 2)}, read_formula, EXAMPLE,
                     "formula or and sign 0 1 sign 0 2 sign 2 0")
        self.refused(BadTalk, {"place": (1,)}, read_talk, EXAMPLE,
                     "talk no { 2 1 } sign 0 1 sign 2 0")
        self.refused(BadTalk, {"place": (3,)}, read_talk, EXAMPLE,
                     "talk no { 1 2 } sign 0 1 sign 2 0")
        self.refused(BadTalk, {"place": (3, 1)}, read_talk, EXAMPLE,
                     "talk no { 3 } sign 0 1 yes { 4 } sign 9 9 sign 0 1")
        self.refused(BadTree, {"place": (1,)}, read_tree, 2, "tree ask 2 0 1")
        self.refused(BadTree, {"place": (3, 1)}, read_tree, 2, "tree ask 1 0 ask 2 0 1")

    def test_wrong_words_come_ahead_of_what_is_told(self):
        self.refused(BadText, {"line": 0, "word": 8}, read_question, "question 9 ( ) { } { } x")
        self.refused(BadText, {"line": 0, "word": 4}, read_formula, EXAMPLE, "formula sign 9 9 x")
        self.refused(BadText, {"line": 0, "word": 6}, read_talk, EXAMPLE, "talk yes { 9 } sign x")
        self.refused(BadText, {"line": 0, "word": 4}, read_tree, 2, "tree ask 9 0")

    def test_long_texts_however_deep(self):
        count = 3000
        for word in ("or", "and"):
            low = (word + " ") * count
            inmost = low + "sign 0 1 " * (count + 1)
            side_by_side = (word + " sign 0 1 ") * count + "sign 0 1"
            for text in (inmost, side_by_side, low + "sign 9 9 " * (count + 1)):
                self.refused(TooGreat, {"most": 60}, reading_formula, "formula " + text)
                self.refused(BadText, {"line": 1, "word": 0}, reading_formula,
                             "formula " + text + "\n)")
            self.refused(BadFormula, {"place": (1,)}, reading_formula,
                         "formula " + (word + " sign 9 9 ") * count + "sign 0 1")
            self.refused(BadText, {"line": 0, "word": count + 1}, reading_formula, "formula " + low)
        wide = " ".join(self.words_of(full(4000, ("or",), SIGN)))
        self.refused(TooGreat, {"most": 400}, reading_formula, "formula " + wide)

    def words_of(self, formula):
        if formula[0] == "or":
            return ["or"] + self.words_of(formula[1]) + self.words_of(formula[2])
        return ["sign", str(formula[0]), str(formula[1])]

    def test_long_talks_and_trees(self):
        count = 20000
        talk = "talk " + "yes { 0 1 2 } " * count + "sign 0 1 " * (count + 1)
        self.refused(TooGreat, {"most": 60}, read_talk, EXAMPLE, talk)
        self.refused(BadText, {"line": 0, "word": 1 + 6 * count + 3 * count + 3}, read_talk,
                     EXAMPLE, talk + "sign")
        self.refused(BadText, {"line": 0, "word": 1 + 6 * count + 3 * count}, read_talk, EXAMPLE,
                     "talk " + "yes { 0 1 2 } " * count + "sign 0 1 " * count)
        tree = "tree" + "\nask 0" * count + "\n1" * (count + 1)
        self.refused(TooGreat, {"most": 60}, read_tree, 1, tree)
        self.refused(BadText, {"line": 2 * count + 2, "word": 0}, read_tree, 1, tree + "\n1")
        lot = " ".join(str(row) for row in range(5000))
        self.refused(BadTalk, {"place": (1,)}, read_talk, EXAMPLE,
                     "talk no { " + lot + " } sign 0 1 sign 0 1")
        signs = " ".join(["sign 0 1"] * 5000)
        self.refused(BadQuestion, {"place": (1, 1)}, read_question,
                     "question 2 ( " + signs + " ) { 1 } { 0 }")

    def test_example(self):
        self.refused(BadText, {"line": 0, "word": 5}, read_formula, EXAMPLE,
                     "formula or sign 0 1 )")

    def test_refused_in_order(self):
        texts = [("formula", BadText, {"line": 0, "word": 1}), (None, BadText, {"line": 0, "word": 0}),
                 (Touchy(), BadText, {"line": 0, "word": 0})]
        self.check_calls(read_question, ("text",), (question_text(EXAMPLE),), [
            texts[1:] + [("question", BadText, {"line": 0, "word": 1})]])
        self.check_calls(read_formula, ("question", "text"), (EXAMPLE, "formula sign 0 1"),
                         [QUESTION_REFUSALS, texts])
        self.check_calls(read_talk, ("question", "text"), (EXAMPLE, "talk sign 0 1"),
                         [QUESTION_REFUSALS, texts[1:]])
        self.check_calls(read_tree, ("many", "text"), (3, "tree ask 2 1 0"),
                         [MANY_REFUSALS, texts[1:]])
        self.refused(BadParameter, {"value": 0}, read_tree, 0, "tree x")


if __name__ == "__main__":
    unittest.main()
