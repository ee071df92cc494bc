"""The interface: each name is defined in the file under which it is listed, as it stands there."""

import ast
import os
import unittest

FOLDER = os.path.join(os.path.dirname(os.path.dirname(os.path.abspath(__file__))), "saidbetween")

INTERFACE = {
    "questions": [
        "need_question(question)", "bit_at(row, place)", "parted(question, sign, yes, no)",
        "can_be(question)", "first_unparted(question)", "turned(question)", "rising_signs(many)",
        "all_signs(many)", "question_of(many, signs, values)", "lesser(question, yes, no)",
    ],
    "formulas": [
        "need_formula(question, formula)", "value_of(question, formula, row)",
        "first_wrong(question, formula)", "tells(question, formula)",
        "depth_of(question, formula)", "leaves_of(question, formula)",
        "layers_of(question, formula)", "negated(question, formula)",
    ],
    "wording": [],
    "texts": [
        "question_text(question)", "read_question(text)", "formula_text(question, formula)",
        "read_formula(question, text)", "talk_text(question, talk)", "read_talk(question, text)",
        "tree_text(many, tree)", "read_tree(many, text)",
    ],
    "talks": [
        "need_talk(question, talk)", "said(question, talk, yes, no)",
        "first_failing(question, talk)", "is_talk(question, value)", "pairs_at(question, talk)",
        "bits_of(question, talk)", "ends_of(question, talk)", "turns_of(question, talk)",
        "is_lean(question, talk)",
    ],
    "turning": [
        "talk_of(question, formula)", "formula_of(question, talk)", "lean_talk(question, talk)",
        "lean_formula(question, formula)",
    ],
    "engine": [],
    "depths": [
        "least_bits(question)", "is_least_bits(question, value)", "is_book(question, bits, value)",
        "talked(question)",
    ],
    "sizes": [
        "least_leaves(question)", "is_least_leaves(question, value)",
        "is_size_book(question, leaves, value)",
    ],
    "few": [
        "best_of(question, bits)", "is_best_of(question, bits, value)", "leaves_by_bits(question)",
    ],
    "layers": [
        "layers_from(question, talk, hand)", "fewest_by_layers(question, layers, hand)",
        "is_fewest_by_layers(question, layers, hand, value)",
        "is_layer_book(question, layers, hand, leaves, value)",
    ],
    "rising": [
        "is_rising(many, values)", "kernel_of(question)", "led_talk(question, talk)",
        "rising_formula(many, values)", "falling_formula(many, values)",
    ],
    "bounds": [
        "neighbours(question)", "neighbour_bound(question)", "best_neighbours(question)",
    ],
    "weights": ["heaviest(question, weights)", "weight_bound(question, weights)"],
    "ranks": ["rank_modulo(prime, matrix)", "rank_bound(question, prime, matrix)"],
    "hands": [
        "need_grid(grid)", "need_speech(grid, speech)", "heard(grid, speech, row, column)",
        "cells_at(grid, speech)", "speech_bits(grid, speech)", "is_speech(grid, value)",
        "turned_grid(grid)", "bare_grid(grid)",
    ],
    "saying": [
        "least_said(grid)", "is_least_said(grid, value)", "is_grid_book(grid, bits, value)",
        "grid_counts(grid)", "greatest_fool(grid, number)", "is_fool(grid, number, value)",
        "grid_rank(grid, number, prime)", "said_bound(grid, prime)",
    ],
    "covers": [
        "greatest_rectangles(grid, number)", "is_cover(grid, number, value)",
        "least_cover(grid, number)", "is_cover_paper(grid, number, count, value)",
        "is_least_cover(grid, number, value)",
    ],
    "partings": [
        "is_parting(grid, number, value)", "least_parting(grid, number)",
        "is_parting_paper(grid, number, count, value)", "is_least_parting(grid, number, value)",
    ],
    "both": ["by_both_covers(grid, zeros, ones)", "both_bound(zeros, ones)"],
    "asks": [
        "need_tree(many, tree)", "asked(many, tree, row)", "asks_of(many, tree)",
        "is_tree_for(many, values, value)", "least_asks(many, values)",
        "is_cube_book(many, values, asks, value)",
    ],
    "certificates": [
        "certificate(many, values, row)", "turning_bits(many, values, row)",
        "blocks(many, values, row)", "is_blocks(many, values, row, value)", "sums(many, values)",
        "most_of(many, values)", "certificate_tree(many, values)", "formula_of_asks(many, tree)",
    ],
    "fractions": [],
    "exchange": [],
    "chances": [
        "best_speech(grid, bits, odds)", "least_chance(grid, bits, mix)", "worth(grid, bits)",
        "is_worth(grid, bits, value)",
    ],
    "inside": [
        "put_in(outer, inner)", "put_formula(many, formula, inner_many, inner)",
        "put_tree(many, tree, inner_many, inner)",
    ],
    "products": [
        "put_paper(outer, inner)", "is_put_paper(outer, inner, value)",
        "long_row(outer, inner, book, inner_book, tree)",
    ],
    "sessions": [
        "begun(question)", "need_state(state)", "session_step(state, deed)",
        "played(question, deeds)",
    ],
}


def tree_of(name):
    with open(os.path.join(FOLDER, name + ".py"), encoding="utf-8") as file:
        return ast.parse(file.read())


class InterfaceTest(unittest.TestCase):

    def test_functions_stand_in_their_files(self):
        for name, functions in INTERFACE.items():
            found = [f"{node.name}({', '.join(arg.arg for arg in node.args.args)})"
                     for node in tree_of(name).body if isinstance(node, ast.FunctionDef)]
            for function in functions:
                self.assertIn(function, found)

    def test_no_function_has_defaults_or_stars(self):
        for name in INTERFACE:
            for node in ast.walk(tree_of(name)):
                if isinstance(node, ast.FunctionDef):
                    self.assertEqual((node.args.vararg, node.args.kwarg), (None, None))
                    self.assertEqual((node.args.kwonlyargs, node.args.defaults), ([], []))


class FormTest(unittest.TestCase):
    """What the language of the program bounds and a glance can miss."""

    def files(self):
        for name in sorted(os.listdir(FOLDER)):
            if name != "__pycache__":
                self.assertTrue(name.endswith(".py"), name)
                with open(os.path.join(FOLDER, name), encoding="utf-8") as file:
                    yield name, file.read()

    def test_sizes_and_characters(self):
        for name, text in self.files():
            lines = text.split("\n")
            self.assertLessEqual(len(lines), 399, name)
            self.assertLessEqual(max(len(line) for line in lines), 120, name)
            self.assertTrue(all(sign == "\n" or " " <= sign <= "~" for sign in text), name)
            for node in ast.walk(ast.parse(text)):
                if isinstance(node, ast.FunctionDef):
                    self.assertLessEqual(node.end_lineno - node.lineno + 1, 40, node.name)

    def test_imports_name_the_file_that_defines(self):
        for name, text in self.files():
            imported = set()
            for node in ast.walk(ast.parse(text)):
                self.assertNotIsInstance(node, ast.Import, name)
                if isinstance(node, ast.ImportFrom) and node.module in ("math", "itertools"):
                    imported |= {alias.name for alias in node.names}
                elif isinstance(node, ast.ImportFrom):
                    self.assertTrue(node.module.startswith("saidbetween."), name)
                    body = tree_of(node.module.split(".")[1]).body
                    defined = {one.name for one in body if hasattr(one, "name")}
                    defined |= {target.id for one in body if isinstance(one, ast.Assign)
                                for target in one.targets}
                    for alias in node.names:
                        self.assertIn(alias.name, defined, name)
                        imported.add(alias.name)
            for node in ast.walk(ast.parse(text)):
                if isinstance(node, ast.arg):
                    self.assertNotIn(node.arg, imported, name)
                if isinstance(node, ast.Name) and isinstance(node.ctx, ast.Store):
                    self.assertNotIn(node.id, imported, name)


if __name__ == "__main__":
    unittest.main()
