"""Each function, class and method of the interface is defined in the file or the class that lists it."""

import ast
import unittest
from pathlib import Path

PACKAGE = Path(__file__).resolve().parent.parent / "tablelaws"
FUNCTIONS = {
    "matrices": "check_size",
    "words": "least_rotation term_key content_of",
    "perms": "check_permutation identity compose inverse cycles_of sign",
    "names": "name_kind",
    "lines": "parse_line write_line",
    "measures": "measure_step",
    "reading": "read_program",
    "writing": "write_program",
    "running": "run_steps run_program",
    "grids": "all_matrices first_difference",
    "expanding": "expand_steps expand",
    "parts": "contents_in part_of",
    "evaluating": "value_at",
    "replacing": "substitute renamed reversed_poly",
    "notation": "show_poly read_poly",
    "decreasing": "inversions longest_decreasing decreasing_places colours is_good",
    "listing": "all_permutations good_permutations",
    "tableaux": "tableaux_of perm_of",
    "counting": "shapes_of filling_count good_count",
    "linearizing": "places_of linearize read_perm restitute",
    "cells": "moved_row cell_of place_matrices choices_of chosen_sums linear_value",
    "alternating": "alternating_sum relation_sum",
    "reducing": "reduce_sum",
    "certificates": "certify accepts conclusion",
    "normalforms": "normal_form is_zero",
    "witnesses": "witness_for",
    "verdicts": "compare_polys compare_programs alike_sizes",
    "probes": "probe_of probes_of",
    "learning": "from_values run_probe learn",
    "combining": "combine independent words_of trace_free",
    "standard": "standard split_standard standard_value",
    "staircases": "stair_arrows doubled_arrows staircase staircase_entry doubled_staircase doubled_entry",
    "wordlaws": "word_witness",
    "trails": "trails balance",
    "onematrix": "elementary characteristic reduce_one diagonal_matrix diagonal_witness",
    "pairs": "reduce_pair",
    "reports": "report matrix_lines point_lines",
}
CLASSES = {
    "ratios": ("Ratio", "__add__ __sub__ __mul__ __floordiv__ __neg__ __eq__ __bool__ __str__ read power"),
    "matrices": ("Matrix", "__add__ __sub__ __mul__ __neg__ __eq__ __getitem__ __iter__ one zero unit scaled power "
                           "trace transposed padded"),
    "polys": ("Poly", "degree __add__ __sub__ __mul__ __neg__ __eq__ __getitem__ __contains__ __len__ __iter__ letter "
                      "constant scaled power traced used_letters"),
    "permsums": ("PermSum", "__add__ __sub__ __mul__ __neg__ __eq__ __getitem__ __contains__ __len__ __iter__ scaled"),
    "programs": ("Program", "__init__"),
    "certificates": ("Certificate", "__add__ __neg__ __eq__ __iter__ contents well_formed empty scaled"),
    "verdicts": ("Verdict", "__init__ __bool__"),
    "probes": ("Probe", "__eq__ __call__"),
    "combining": ("Combination", "__init__ __bool__ tested"),
    "bench": ("Bench", "__init__ __len__ __contains__ __iter__ __getitem__ load reload drop resize all_letters normal "
                       "compare results classes separator"),
}
# Modules of Python that LANGUAGE.md allows here.
LIBRARY = ("math",)


def tree_of(path):
    return ast.parse(path.read_text(encoding="utf-8"))


def defined_in(body, kind):
    return [node.name for node in body if isinstance(node, kind)]


class InterfaceTest(unittest.TestCase):
    def test_functions(self):
        for module, names in FUNCTIONS.items():
            defined = defined_in(tree_of(PACKAGE / f"{module}.py").body, ast.FunctionDef)
            for name in names.split():
                self.assertIn(name, defined, module)

    def test_classes(self):
        for module, (name, methods) in CLASSES.items():
            tree = tree_of(PACKAGE / f"{module}.py")
            found = [node for node in tree.body if isinstance(node, ast.ClassDef) and node.name == name]
            self.assertEqual(len(found), 1, name)
            defined = defined_in(found[0].body, ast.FunctionDef)
            for method in methods.split():
                self.assertIn(method, defined, name)


class FilesTest(unittest.TestCase):
    """The plain rules of LANGUAGE.md about files, sizes and imports."""

    def test_files(self):
        for path in PACKAGE.iterdir():
            if path.name == "__pycache__":
                continue
            self.assertRegex(path.name, r"^[a-z_]+\.py$")
            text = path.read_text(encoding="utf-8")
            lines = text.split("\n")
            self.assertLessEqual(len(lines), 399, path.name)
            self.assertLessEqual(max(map(len, lines)), 120, path.name)
            self.assertEqual({sign for sign in text if not " " <= sign <= "~"} - {"\n"}, set(), path.name)

    def test_functions_are_short(self):
        for path in PACKAGE.glob("*.py"):
            for node in ast.walk(tree_of(path)):
                if isinstance(node, ast.FunctionDef):
                    self.assertLessEqual(node.end_lineno - node.lineno + 1, 40, f"{path.name} {node.name}")

    def test_imports(self):
        for path in PACKAGE.glob("*.py"):
            for node in ast.walk(tree_of(path)):
                self.assertNotIsInstance(node, ast.Import, path.name)
                if isinstance(node, ast.ImportFrom):
                    top = node.module.split(".")[0]
                    self.assertIn(top, ("tablelaws",) + LIBRARY, path.name)
                    self.assertEqual(node.level, 0, path.name)


if __name__ == "__main__":
    unittest.main()
