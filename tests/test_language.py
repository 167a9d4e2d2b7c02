"""The rules of ../shared/LANGUAGE.md that can be seen from the files, and the interface of the document."""

import ast
import builtins
import importlib
import inspect
import pathlib
import unittest

from howmanyslips.desks import Desk

PACKAGE = pathlib.Path(__file__).resolve().parents[1] / "howmanyslips"
FILES = sorted(PACKAGE.glob("*.py"))

BUILTINS = (
    "len range enumerate zip min max sum abs sorted reversed int str bool list tuple dict set isinstance ord repr any "
    "all divmod Exception ValueError TypeError KeyError IndexError LookupError").split()
METHODS = (
    "append clear copy count endswith extend find get index insert isalnum isalpha isdigit islower isspace isupper "
    "items join keys ljust lower lstrip partition pop remove replace reverse rfind rjust rpartition rsplit rstrip "
    "setdefault split splitlines startswith strip update upper values zfill bit_length isascii isdecimal add discard "
    "__init__").split()
STATEMENTS = (ast.Global, ast.Nonlocal, ast.AsyncFunctionDef, ast.AsyncFor, ast.AsyncWith, ast.Import, ast.Lambda)

INTERFACE = {
    "games": {"is_game": ["thing"], "places": ["game"], "game_text": ["game"], "read_game": ["text"]},
    "plays": {
        "is_lasso": ["game", "thing"], "is_path": ["game", "thing"], "winner": ["game", "lasso"],
        "lasso_weight": ["game", "lasso"], "path_weight": ["game", "path"],
    },
    "plans": {
        "is_plan": ["game", "thing"], "with_plan": ["game", "plan"], "worths": ["game", "plan"],
        "does_follow": ["game", "plan", "lasso"], "weak_lasso": ["game", "plan", "place"],
        "weak_holds": ["game", "plan", "place", "thing"],
    },
    "numbers": {
        "is_number": ["thing"], "is_less": ["one", "other"], "numbers": ["game"], "judge_game": ["game"],
        "game_holds": ["game", "thing"], "best_plan": ["game"], "is_best_plan": ["game", "plan"],
        "level": ["game", "number"],
    },
    "budgets": {
        "unrolled": ["game", "k"], "rigged": ["game"], "front": ["game", "k", "place", "budget"],
        "wins_with": ["game", "place", "k"],
    },
    "duels": {
        "is_attack": ["game", "thing"], "best_attack": ["game"], "is_best_attack": ["game", "attack"],
        "duel": ["game", "plan", "attack", "place"],
    },
    "controllers": {
        "is_controller": ["game", "thing"], "product": ["game", "controller"],
        "controller_resilience": ["game", "controller"], "judge_controller": ["game", "controller"],
        "controller_holds": ["game", "controller", "thing"], "weak_play": ["game", "controller", "v"],
        "is_weak_play": ["game", "controller", "v", "thing"],
    },
    "advice": {
        "best_moves": ["game", "place"], "safe_moves": ["game", "place"], "story": ["game", "path"],
        "blame": ["game", "path"],
    },
    "firm": {
        "all_slips": ["game"], "without_slips": ["game", "lot"], "costly": ["game"],
        "fewest_firm": ["game", "v", "number"], "judge_firm": ["game", "v", "number"],
        "firm_holds": ["game", "v", "number", "thing"],
    },
    "goals": {
        "safe_game": ["game", "bad"], "reach_game": ["game", "aims"], "again_game": ["game", "aims"],
        "seldom_game": ["game", "bad"],
    },
    "likeness": {
        "is_likeness": ["game", "thing"], "classes": ["game"], "quotient": ["game"], "alike": ["game", "u", "v"],
        "judge_alike": ["game", "u", "v"], "alike_holds": ["game", "u", "v", "thing"],
    },
    "standins": {"chain": ["number"], "grafted": ["game", "v", "number"], "standin_for": ["game", "inside"]},
    "desks": {"Desk": ["game"], "read_desk": ["text"]},
}

# The methods of a desk, without self.
METHODS_OF_DESK = {
    "do": ["deed"], "undo": [], "redo": [], "game": [], "numbers": [], "promises": [], "deeds": [], "text": [],
    "copied": [],
}


def trees():
    for file in FILES:
        yield file.name, ast.parse(file.read_text())


def nodes(kind):
    for name, tree in trees():
        for node in ast.walk(tree):
            if isinstance(node, kind):
                yield name, node


def defined(module):
    """The names that a file of the package defines itself."""
    body = ast.parse((PACKAGE / f"{module}.py").read_text()).body
    names = [node.name for node in body if isinstance(node, (ast.FunctionDef, ast.ClassDef))]
    return names + [node.targets[0].id for node in body if isinstance(node, ast.Assign)]


class LanguageTest(unittest.TestCase):
    def test_the_folder_holds_files_of_the_package_alone(self):
        found = [file.name for file in PACKAGE.iterdir() if file.name != "__pycache__"]
        self.assertEqual(sorted(found), [file.name for file in FILES])

    def test_sizes_and_signs(self):
        for file in FILES:
            text = file.read_text()
            self.assertLessEqual(text.count("\n"), 399, file.name)
            self.assertTrue(set(text) <= {"\n", *map(chr, range(32, 127))}, file.name)
            self.assertLessEqual(max(map(len, text.split("\n"))), 120, file.name)
        for name, node in nodes(ast.FunctionDef):
            self.assertLessEqual(node.end_lineno - node.lineno + 1, 40, (name, node.name))
            self.assertEqual(node.decorator_list, [], (name, node.name))

    def test_imports_are_of_the_package_by_full_names(self):
        for name, node in nodes((ast.Import, ast.ImportFrom)):
            self.assertIsInstance(node, ast.ImportFrom, name)
            self.assertEqual(node.level, 0, name)
            self.assertTrue(node.module.startswith("howmanyslips."), name)
            for alias in node.names:
                self.assertIn(alias.name, defined(node.module.split(".")[1]), (name, alias.name))
                self.assertIsNone(alias.asname, (name, alias.name))

    def test_no_two_files_import_from_each_other(self):
        imports = {file.stem: set() for file in FILES}
        for name, node in nodes(ast.ImportFrom):
            imports[name.removesuffix(".py")].add(node.module.split(".")[1])
        left = dict(imports)
        while left:
            free = [name for name, modules in left.items() if not modules & set(left)]
            self.assertNotEqual(free, [], left)
            left = {name: modules for name, modules in left.items() if name not in free}

    def test_names_in_functions_mean_nothing_else(self):
        for name, tree in trees():
            taken = [alias.asname or alias.name for node in tree.body if isinstance(node, ast.ImportFrom)
                     for alias in node.names]
            for node in ast.walk(tree):
                if isinstance(node, ast.arg) or isinstance(node, ast.Name) and isinstance(node.ctx, ast.Store):
                    bound = node.arg if isinstance(node, ast.arg) else node.id
                    self.assertNotIn(bound, taken, name)
                    self.assertFalse(hasattr(builtins, bound), (name, bound))

    def test_only_builtins_and_methods_that_are_allowed(self):
        own = {node.name for _, node in nodes((ast.FunctionDef, ast.ClassDef))}
        for name, node in nodes(ast.Name):
            if hasattr(builtins, node.id):
                self.assertIn(node.id, [*BUILTINS, "super"], name)
        for name, node in nodes(ast.Call):
            if isinstance(node.func, ast.Attribute):
                self.assertIn(node.func.attr, [*METHODS, *own], name)

    def test_no_statement_that_is_not_used_here(self):
        self.assertEqual([(name, type(node).__name__) for name, node in nodes(STATEMENTS)], [])
        self.assertEqual([name for name, _ in nodes((ast.GeneratorExp, ast.Set, ast.Div, ast.Yield, ast.Match))], [])

    def test_only_own_errors_are_caught(self):
        for name, node in nodes(ast.Try):
            self.assertEqual(node.finalbody, [], name)
            for handler in node.handlers:
                caught = handler.type.elts if isinstance(handler.type, ast.Tuple) else [handler.type]
                self.assertTrue({error.id for error in caught} <= set(defined("errors")), name)

    def test_no_name_is_a_method_and_an_attribute(self):
        for name, node in nodes(ast.ClassDef):
            methods = [part.name for part in node.body if isinstance(part, ast.FunctionDef)]
            attributes = [part.attr for part in ast.walk(node)
                          if isinstance(part, ast.Attribute) and isinstance(part.ctx, ast.Store)]
            self.assertEqual(set(methods) & set(attributes), set(), name)
            self.assertEqual(len(set(methods)), len(methods), name)
            unders = [method for method in methods if method.startswith("__")]
            self.assertTrue(set(unders) <= {"__init__", "__eq__"}, name)

    def test_no_per_cent_sign_in_a_string(self):
        strings = [node.value for _, node in nodes(ast.Constant) if isinstance(node.value, str)]
        self.assertEqual([text for text in strings if "%" in text], [])

    def test_functions_stand_where_the_interface_lists_them(self):
        for module, functions in INTERFACE.items():
            for name, parameters in functions.items():
                function = getattr(importlib.import_module(f"howmanyslips.{module}"), name)
                self.assertEqual(function.__module__, f"howmanyslips.{module}")
                self.assertEqual(list(inspect.signature(function).parameters), parameters)

    def test_the_methods_of_a_desk_stand_in_its_class(self):
        for name, parameters in METHODS_OF_DESK.items():
            self.assertIn(name, vars(Desk))
            self.assertEqual(list(inspect.signature(getattr(Desk, name)).parameters), ["self", *parameters])


if __name__ == "__main__":
    unittest.main()
