"""The interface: each name is defined, with its arguments, in its own file; modules use those above them."""

import ast
import importlib
import inspect
import unittest
from pathlib import Path

PACKAGE = Path(__file__).resolve().parent.parent / "eithersums"

ERRORS = {
    "SumError": None, "Broken": "index shown", "Fails": "setting", "HasModel": "bits", "NoCommand": "",
    "NoModel": "paper", "NoText": "line", "NotApart": "one other", "NotFull": "lot", "NotKept": "index", "NotTight": "",
    "NotWhole": "bits", "Nothing": "", "TooMany": "most", "Wrong": "place",
}
FUNCTIONS = {
    "forms": {
        "is_integer": "thing", "is_sum": "many thing", "is_row": "many thing", "is_line": "many thing",
        "is_clause": "many thing", "is_book": "thing", "are_bits": "many thing", "is_flat": "many thing",
        "is_lot": "book thing", "is_setting": "book thing",
    },
    "sums": {
        "together": "sums", "worth_of": "row bits", "rank_of": "sums", "sum_by": "sums row", "dependent_lot": "sums",
        "independent_among": "sums",
    },
    "books": {
        "holds": "line bits", "keeps": "clause bits", "missed": "book bits", "models_of": "book",
        "clauses_of": "book lot", "with_clause": "book clause", "without_clause": "book index",
        "renumbered": "book order", "exchanged": "book unknown other", "led_back": "order bits",
        "exchanged_bits": "bits unknown other",
    },
    "texts": {
        "show_line": "line", "show_clause": "clause", "show_book": "book", "show_flat": "flat", "show_paper": "paper",
    },
    "reader": {"read_book": "text", "read_paper": "book text"},
    "flats": {
        "flat_of": "lines", "is_in": "flat bits", "lies_in": "one other", "meet": "one other", "reduced": "flat row",
        "told_on": "flat row", "halves": "flat row", "bits_many": "many flat", "bits_in": "many flat",
        "least_flat": "some", "all_flats": "many",
    },
    "misses": {
        "miss_of": "clause", "clause_for": "flat", "follows_from": "one other", "says_same": "one other",
        "misses_of": "book",
    },
    "steps": {"lies_in_both": "flat one other", "cut_by": "flat one other"},
    "papers": {
        "is_paper": "book thing", "refutes": "book thing", "shortened": "paper", "leant_clauses": "paper",
        "lifted": "paper lot", "joined": "one other flat", "spread": "book paper", "missed_by": "book paper bits",
    },
    "solver": {
        "solve": "book", "is_answer": "book thing", "least_model": "book", "model_with": "book lines",
        "models_many": "book",
    },
    "cores": {
        "core_of": "book", "is_core": "book thing", "needed_clauses": "book", "all_cores": "book",
        "least_cores": "book", "core_paper": "book core",
    },
    "beyond": {
        "rank_of_lot": "book lot", "beyond_of": "book lot", "greatest_beyond": "book", "lots_beyond": "book",
    },
    "heart": {
        "heart": "book", "is_deciding": "book thing", "deciding_paper": "book", "led_on": "book bits",
        "heart_book": "book",
    },
    "asks": {
        "height_of": "tree", "fewest_asks": "book", "leaves_of": "tree", "finds": "book thing", "best_tree": "book",
        "mean_tree": "book", "mean_of": "book tree", "mean_asks": "book", "paper_by": "book tree",
    },
    "liars": {"liar_of": "book", "is_liar": "book thing", "answers_by": "book liar rows"},
    "apart": {
        "meeting": "book", "models_apart": "book", "left_in": "book flat", "left_bits": "book",
        "models_from": "book flat most",
    },
    "clean": {
        "clean_rows": "book flat lot", "tree_for": "book", "knot_of": "book", "is_tree_for": "book thing",
        "is_knot": "book thing", "parted": "book flat lot row",
    },
    "settings": {
        "chosen_lines": "book setting", "some_full": "book", "is_full": "book setting", "solution_of": "book setting",
    },
    "orders": {
        "flat_order": "book", "failing_setting": "book", "forms_of": "book order", "is_order": "book thing",
        "are_forms": "book arrangement thing",
    },
    "rings": {
        "hanging": "book setting clause line", "hangs_on": "book setting", "turned_by": "book setting ring",
        "is_ring": "book setting thing", "shortest_ring": "book setting",
    },
    "odd": {"clause_sums": "book", "is_odd": "book", "full_many": "book"},
    "sure": {
        "sure_flat": "book", "sure_bit": "book row", "parting_models": "book row", "spread_models": "book",
        "sure_along": "book order",
    },
    "added": {"addable_rows": "book index", "struck_lots": "book"},
}
CLASSES = {
    ("live", "Live", "book"): {
        "__eq__": "other", "add": "clause", "drop": "index", "bind": "duty", "back": "", "again": "", "free": "index",
        "book_now": "", "duties_now": "", "answer": "", "weighs": "clause", "twin": "",
    },
    ("desk", "Desk", "text"): {"execute": "line", "live": ""},
}
ORDER = ["errors", "forms", "sums", "books", "texts", "reader", "flats", "misses", "steps", "papers", "solver", "cores",
         "beyond", "heart", "asks", "liars", "apart", "clean", "settings", "orders", "rings",
         "odd", "sure", "added", "live", "desk"]


def defined_in(module, kind):
    """Return the names that a file itself defines at its top."""
    tree = ast.parse((PACKAGE / f"{module}.py").read_text(encoding="utf-8"))
    return [node.name for node in tree.body if isinstance(node, kind)]


def imported_by(module):
    """Return the modules of the package from which a file imports."""
    tree = ast.parse((PACKAGE / f"{module}.py").read_text(encoding="utf-8"))
    froms = [node.module for node in tree.body if isinstance(node, ast.ImportFrom)]
    return [name.split(".")[1] for name in froms if name.startswith("eithersums.")]


class TestInterface(unittest.TestCase):
    def test_functions(self):
        for module, wanted in FUNCTIONS.items():
            loaded = importlib.import_module(f"eithersums.{module}")
            names = defined_in(module, ast.FunctionDef)
            for name, arguments in wanted.items():
                self.assertIn(name, names, module)
                found = list(inspect.signature(getattr(loaded, name)).parameters)
                self.assertEqual(found, arguments.split(), (module, name))

    def test_classes(self):
        for (module, name, arguments), methods in CLASSES.items():
            loaded = getattr(importlib.import_module(f"eithersums.{module}"), name)
            self.assertIn(name, defined_in(module, ast.ClassDef))
            self.assertEqual(list(inspect.signature(loaded).parameters), arguments.split(), name)
            for method, given in methods.items():
                self.assertIn(method, vars(loaded), name)
                found = list(inspect.signature(vars(loaded)[method]).parameters)
                self.assertEqual(found, ["self", *given.split()], (name, method))

    def test_errors(self):
        loaded = importlib.import_module("eithersums.errors")
        names = defined_in("errors", ast.ClassDef)
        for name, arguments in ERRORS.items():
            self.assertIn(name, names)
            if arguments is not None:
                found = list(inspect.signature(getattr(loaded, name)).parameters)
                self.assertEqual(found, arguments.split(), name)

    def test_all_modules(self):
        self.assertEqual(sorted([path.stem for path in PACKAGE.glob("*.py")]), sorted([*ORDER, "__init__"]))

    def test_order_of_modules(self):
        for place, module in enumerate(ORDER):
            self.assertLessEqual(set(imported_by(module)), set(ORDER[:place]), module)

    def test_init_is_empty(self):
        self.assertEqual((PACKAGE / "__init__.py").read_text(encoding="utf-8"), "")


if __name__ == "__main__":
    unittest.main()
