"""The interface: what is listed stands in its file, with its parameters, and takes no others."""

import ast
import pathlib
import unittest

PACKAGE = pathlib.Path(__file__).resolve().parent.parent / "nearsteps"

# File, name, parameters.
FUNCTIONS = {
    "forms": {
        "is_table": ["thing"], "is_form": ["thing"], "judge_form": ["table"], "form_holds": ["table", "thing"],
        "lean": ["form", "one", "other"], "size": ["form", "step"], "is_change": ["n", "thing"],
        "changed": ["form", "change"], "led": ["n", "change", "step"], "back": ["n", "change"],
    },
    "short": {
        "short_steps": ["form", "most"], "least_size": ["form"], "many_by_size": ["form", "most"],
    },
    "walls": {
        "class_of": ["n", "step"], "class_size": ["form", "kind"], "class_shortest": ["form", "kind"],
        "walls": ["form"], "judge_step": ["form", "step"], "step_holds": ["form", "step", "thing"],
        "is_obtuse": ["form", "thing"], "obtuse_row": ["form"],
    },
    "nearest": {
        "is_spot": ["n", "thing"], "plain_place": ["n", "spot"], "gap": ["form", "spot", "place"],
        "judge_nearest": ["form", "spot", "place"], "nearest_holds": ["form", "spot", "place", "thing"],
        "walk": ["form", "spot", "place"], "nearest_places": ["form", "spot"], "judge_plain": ["form"],
        "plain_holds": ["form", "thing"],
    },
    "enough": {
        "judge_enough": ["form", "steps"], "enough_holds": ["form", "steps", "thing"], "is_enough": ["form", "steps"],
    },
    "cells": {
        "is_in_cell": ["form", "spot"], "judge_corner": ["form", "spot"], "corner_holds": ["form", "spot", "thing"],
        "corners": ["form"], "face_of": ["form", "wall"], "counts": ["form"],
    },
    "reach": {
        "reach": ["form"], "deepest": ["form"], "judge_reach": ["form", "r"], "reach_holds": ["form", "r", "thing"],
    },
    "readings": {
        "judge_reading": ["form", "e"], "reading_holds": ["form", "e", "thing"], "read": ["form", "spot"],
        "may_be_meant": ["form", "spot", "e"],
    },
    "alike": {
        "signs": ["form"], "least_signs": ["form"], "judge_alike": ["one", "other"],
        "alike_holds": ["one", "other", "thing"],
    },
    "motions": {
        "motions": ["form"], "spot_led": ["form", "change", "spot"],
    },
    "coarse": {
        "is_coarse": ["n", "thing"], "index": ["n", "coarse"], "coarse_form": ["form", "coarse"],
        "nearest_coarse": ["form", "coarse", "spot"], "judge_stages": ["form", "coarse"],
        "stages_hold": ["form", "coarse", "thing"],
    },
    "holes": {
        "is_hole": ["form", "thing"], "holes": ["form"], "hole_at": ["form", "spot"], "centre_of": ["form", "hole"],
        "hull_size": ["form", "hole"], "judge_within": ["form", "hole", "spot"],
        "within_holds": ["form", "hole", "spot", "thing"],
    },
    "words": {
        "word_of": ["n", "coarse", "place"], "words": ["n", "coarse"], "sum_of": ["n", "coarse", "one", "other"],
        "order_of": ["n", "coarse", "word"], "judge_same": ["n", "coarse", "one", "other"],
        "same_holds": ["n", "coarse", "one", "other", "thing"], "leaders": ["form", "coarse", "word"],
    },
}
CLASSES = {
    "errors": {
        "StepError": None, "BadTable": ["thing"], "BadForm": ["thing"], "BadStep": ["thing"], "BadChange": ["thing"],
        "BadSpot": ["thing"], "BadNumber": ["thing"], "BadFraction": ["thing"], "BadList": ["thing"],
        "BadCoarse": ["thing"],
    },
}


def defined(file, kind):
    """Return the top-level definitions of a file of the package, by name."""
    tree = ast.parse((PACKAGE / f"{file}.py").read_text("ascii"))
    return {node.name: node for node in tree.body if isinstance(node, kind)}


def parameters(node):
    """Return the names of a function's parameters, which are all plain and needed."""
    told = node.args
    assert not (told.posonlyargs or told.kwonlyargs or told.defaults or told.vararg or told.kwarg)
    return [name.arg for name in told.args]


class InterfaceTest(unittest.TestCase):

    def test_functions(self):
        for file, functions in FUNCTIONS.items():
            there = defined(file, ast.FunctionDef)
            for name, names in functions.items():
                self.assertIn(name, there)
                self.assertEqual(parameters(there[name]), names)

    def test_classes(self):
        for file, classes in CLASSES.items():
            there = defined(file, ast.ClassDef)
            for name, names in classes.items():
                self.assertIn(name, there)
                if names is not None:
                    makers = [node for node in there[name].body
                              if isinstance(node, ast.FunctionDef) and node.name == "__init__"]
                    self.assertEqual([parameters(maker) for maker in makers], [["self"] + names])


if __name__ == "__main__":
    unittest.main()
