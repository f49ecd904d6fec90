"""The form of the package: its files, their sizes and signs, and where the names of the interface are defined."""

import ast
import unittest
from pathlib import Path

PACKAGE = Path(__file__).resolve().parent.parent / "wishroads"

INTERFACE = {
    "errors": "PlanError BadTask BadState BadDeed BadPlan BadFacts BadNumber BadText TooMany NothingBack",
    "tasks": "is_task is_plan facts open_deeds done run price",
    "searching": "states_met dead_ends least_price price_left first_plan plan_count cheapest_plans always_done"
                 " must_deeds greatest_price",
    "loosened": "had first_prices first_price",
    "patterns": "loosened_price pattern_price shared_bound",
    "cuts": "cuts cut_bound shows_cuts",
    "pairs": "apart shows_apart groups",
    "weights": "weight_bound lost_most",
    "papers": "never_paper bound_paper solved shows_never shows_bound shows_solved",
    "plans": "links shortened order_count mended safe_states",
    "plays": "Play",
    "worlds": "task_of sample",
}


class Form(unittest.TestCase):

    def test_files(self):
        for path in PACKAGE.iterdir():
            if path.name != "__pycache__":
                self.assertRegex(path.name, "^[a-z_]+[.]py$")
        self.assertTrue((PACKAGE / "__init__.py").is_file())

    def test_sizes_and_signs(self):
        for path in PACKAGE.glob("*.py"):
            text = path.read_text(encoding="utf-8")
            lines = text.split("\n")
            self.assertLessEqual(len(lines), 400, path)
            self.assertLessEqual(max(len(line) for line in lines), 120, path)
            self.assertTrue(all(sign == "\n" or " " <= sign <= "~" for sign in text), path)
            for node in ast.walk(ast.parse(text)):
                if isinstance(node, ast.FunctionDef):
                    self.assertLessEqual(node.end_lineno - node.lineno + 1, 40, (path, node.name))

    def test_names_are_defined_where_the_interface_lists_them(self):
        for module, names in INTERFACE.items():
            tree = ast.parse((PACKAGE / f"{module}.py").read_text(encoding="utf-8"))
            defined = [node.name for node in tree.body if isinstance(node, (ast.FunctionDef, ast.ClassDef))]
            for name in names.split():
                self.assertIn(name, defined)


if __name__ == "__main__":
    unittest.main()
