"""The names of the interface, each defined in its own file."""

import ast
import pathlib
import unittest

PACKAGE = pathlib.Path(__file__).resolve().parent.parent / "allasked"

CLASSES = {
    "errors": ["AskError", "NoFrame", "NoWeb", "NoGrowth", "NoTurn", "NoTie", "NoTruth", "NoBack", "NoText", "NoRow"],
    "games": ["Game"],
    "desk": ["Desk"],
}

METHODS = {
    ("games", "Game"): {
        "__init__": ["self", "frame", "wish"],
        "tell": ["self", "tie", "truth"],
        "foe": ["self", "tie"],
        "back": ["self"],
        "known": ["self"],
        "settled": ["self"],
        "left": ["self"],
        "best": ["self"],
    },
    ("desk", "Desk"): {
        "__init__": ["self", "frame_text", "wish_text"],
        "say": ["self", "row"],
    },
}

FUNCTIONS = {
    "frames": {
        "is_frame": ["thing"],
        "frame_of": ["many", "ties"],
        "is_web": ["frame", "thing"],
        "web_of": ["frame", "ties"],
        "webs": ["frame"],
        "number_of": ["frame", "web"],
        "missing": ["frame", "web"],
    },
    "shapes": {
        "pieces": ["frame", "web"],
        "ring_of": ["frame", "web"],
        "sides_of": ["frame", "web"],
    },
    "wishes": {
        "is_wish": ["frame", "thing"],
        "has": ["frame", "wish", "web"],
    },
    "tables": {
        "table_of": ["frame", "wish"],
        "first_unlike": ["frame", "wish", "other"],
    },
    "known": {
        "is_known": ["frame", "thing"],
        "fits": ["frame", "known", "web"],
        "fitting": ["frame", "known"],
        "settled": ["frame", "wish", "known"],
    },
    "turns": {
        "is_turn": ["frame", "thing"],
        "turned_tie": ["order", "tie"],
        "turned_web": ["order", "web"],
        "turned_known": ["frame", "order", "known"],
        "turned_wish": ["frame", "order", "wish"],
        "unkept": ["frame", "wish", "order"],
    },
    "plans": {
        "is_plan": ["frame", "known", "thing"],
        "followed": ["plan", "web"],
        "worst": ["plan"],
        "ends": ["plan"],
        "fault": ["frame", "wish", "known", "plan"],
        "lets_by": ["frame", "wish", "known", "thing"],
    },
    "changed": {
        "cut": ["frame", "plan", "known"],
        "opposite": ["plan"],
        "missing_plan": ["plan"],
        "turned_plan": ["order", "plan"],
        "put_together": ["frame", "word", "one", "other"],
    },
    "least": {
        "least": ["frame", "wish", "known"],
        "best_asks": ["frame", "wish", "known"],
        "plan_for": ["frame", "wish", "known"],
    },
    "papers": {
        "holds_out": ["frame", "wish", "known", "number", "thing"],
    },
    "foes": {
        "paper_for": ["frame", "wish", "known"],
        "played": ["frame", "paper", "plan"],
    },
    "shown": {
        "shows": ["frame", "wish", "known", "thing"],
        "showing_of": ["frame", "wish", "known"],
    },
    "counts": {
        "counts": ["frame", "wish"],
        "signed": ["frame", "wish"],
        "divided": ["numbers"],
        "spared": ["frame", "wish"],
    },
    "sums": {
        "sum_of": ["frame", "wish"],
        "is_sum": ["frame", "wish", "thing"],
        "degree": ["frame", "wish"],
    },
    "growth": {
        "ungrown": ["frame", "wish"],
        "least_yeses": ["frame", "wish"],
        "least_noes": ["frame", "wish"],
    },
    "reasons": {
        "is_reason": ["frame", "wish", "web", "thing"],
        "reason": ["frame", "wish", "web"],
        "greatest_reasons": ["frame", "wish"],
    },
    "kinds": {
        "led": ["frame", "orders"],
        "kinds": ["frame", "orders"],
        "all_by_turns": ["frame", "wish", "orders"],
    },
    "texts": {
        "frame_text": ["frame"],
        "wish_text": ["wish"],
        "plan_text": ["plan"],
        "known_text": ["known"],
    },
    "reader": {
        "read_frame": ["text"],
        "read_wish": ["frame", "text"],
        "read_plan": ["frame", "text"],
        "read_known": ["frame", "text"],
    },
}


def defined(module, kind):
    tree = ast.parse((PACKAGE / (module + ".py")).read_text())
    return {node.name: node for node in tree.body if isinstance(node, kind)}


class Interface(unittest.TestCase):
    def test_classes(self):
        for module, names in CLASSES.items():
            found = defined(module, ast.ClassDef)
            for name in names:
                self.assertIn(name, found, module)

    def test_methods(self):
        for (module, name), methods in METHODS.items():
            body = defined(module, ast.ClassDef)[name].body
            found = {node.name: node for node in body if isinstance(node, ast.FunctionDef)}
            for method, arguments in methods.items():
                self.assertIn(method, found, name)
                self.assertEqual([arg.arg for arg in found[method].args.args], arguments, method)

    def test_functions(self):
        for module, functions in FUNCTIONS.items():
            found = defined(module, ast.FunctionDef)
            for name, arguments in functions.items():
                self.assertIn(name, found, module)
                self.assertEqual([arg.arg for arg in found[name].args.args], arguments, name)


if __name__ == "__main__":
    unittest.main()
