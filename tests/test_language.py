"""What can be told of the rules in LANGUAGE.md from the files alone: their form, size, imports and builtins."""

import ast
import builtins
import pathlib
import re
import unittest

PACKAGE = pathlib.Path(__file__).resolve().parent.parent / "leastfit"
TEXTS = {path.name: path.read_text(encoding="utf-8") for path in sorted(PACKAGE.glob("*.py"))}
TREES = {name: ast.parse(text) for name, text in TEXTS.items()}

# Where the interface lists its functions and classes.
INTERFACE = {
    "errors": [
        "LeastError", "TooLarge", "InvalidValue", "InvalidProgram", "InvalidTask", "InvalidRow", "NotFound",
        "Malformed", "Stopped",
    ],
    "values": ["is_value", "kind_of_value", "compare_values", "write_value", "read_value"],
    "components": ["names", "argument_kinds", "result_kind", "is_commutative", "apply"],
    "programs": ["program_kind", "size", "depth", "symbols", "parts"],
    "notation": ["write_program", "read_program"],
    "meaning": ["run", "outcomes"],
    "tasks": ["Task"],
    "tables": ["Table"],
    "simplify": ["simplify", "precedes"],
    "goals": ["Goal"],
    "certificates": ["clue_rows", "is_clue", "fits_clues", "example_clues", "make_table"],
    "checker": ["is_closed", "accepts"],
    "search": ["Search"],
    "backward": ["solutions", "reach"],
    "workshop": ["Workshop"],
    "saving": ["write_workshop", "read_workshop"],
}

# The methods that it lists for a class.
METHODS = {
    "Task": ["kinds", "result", "costs", "constants", "input_cost", "check", "cost", "ranks", "compare"],
    "Table": ["work", "grow", "level", "rows", "task", "classes", "find", "count"],
    "Goal": ["task", "examples", "properties", "box", "rows", "holds", "accepts_outcome", "failure"],
    "Search": ["step", "run", "status", "level", "clues", "answer"],
    "Workshop": [
        "add_example", "add_property", "drop_example", "drop_property", "set_box", "task", "examples", "properties",
        "box", "next_numbers", "goal", "kept", "ask",
    ],
}

BUILTINS = """
    len range enumerate zip min max sum abs sorted reversed int str bool bytes list tuple dict set isinstance ord repr
    any all divmod pow getattr hasattr setattr iter next map super property staticmethod classmethod Exception
    ValueError TypeError KeyError IndexError LookupError ZeroDivisionError ArithmeticError OverflowError RuntimeError
    NotImplementedError AttributeError StopIteration NotImplemented
""".split()

LIBRARY = {
    "heapq": "heappush heappop heapify heapreplace heappushpop".split(),
    "math": "gcd lcm isqrt comb perm factorial".split(),
    "itertools": "product combinations permutations chain accumulate pairwise islice zip_longest".split(),
    "collections": ["defaultdict"],
}


def definitions(tree):
    """The names that a file binds at its top, without those that it imports."""
    names = []
    for node in tree.body:
        if isinstance(node, (ast.FunctionDef, ast.ClassDef)):
            names.append(node.name)
        if isinstance(node, ast.Assign):
            names += [target.id for target in node.targets]
    return names


def bound_names(tree):
    """All names that a file gives to something."""
    for node in ast.walk(tree):
        if isinstance(node, (ast.FunctionDef, ast.ClassDef)):
            yield node.name
        if isinstance(node, ast.arg):
            yield node.arg
        if isinstance(node, ast.Name) and not isinstance(node.ctx, ast.Load):
            yield node.id


def defined_in(module):
    package, name = module.split(".")
    return definitions(TREES[f"{name}.py"]) if package == "leastfit" else []


class LanguageTest(unittest.TestCase):

    def test_package_holds_python_files_alone(self):
        for path in PACKAGE.rglob("*"):
            if path.name != "__pycache__" and path.parent.name != "__pycache__":
                self.assertTrue(path.is_dir() or path.suffix == ".py", path)
                self.assertRegex(path.name, "^[a-z0-9_]+([.]py)?$")

    def test_characters_and_lengths(self):
        for name, text in TEXTS.items():
            self.assertIsNone(re.search("[^ -~\n]", text), name)
            self.assertLessEqual(len(text.splitlines()), 399, name)
            self.assertLessEqual(max(len(line) for line in text.splitlines()), 120, name)

    def test_functions_are_short(self):
        for name, node in self.each_node():
            if isinstance(node, ast.FunctionDef):
                self.assertLessEqual(node.end_lineno - node.lineno + 1, 40, f"{name}: {node.name}")

    def test_imports_stand_at_the_top(self):
        for name, node in self.each_node():
            self.assertNotIsInstance(node, ast.Import, name)
            if isinstance(node, ast.ImportFrom):
                self.assertIn(node, TREES[name].body, name)

    def test_imports_name_the_file_that_defines(self):
        for name, node in self.each_node():
            if isinstance(node, ast.ImportFrom) and node.module != "__future__":
                allowed = LIBRARY[node.module] if node.module in LIBRARY else defined_in(node.module)
                for alias in node.names:
                    self.assertIsNone(alias.asname, name)
                    self.assertIn(alias.name, allowed, name)

    def test_interface_is_defined_where_it_is_listed(self):
        for name, listed in INTERFACE.items():
            defined = defined_in(f"leastfit.{name}")
            self.assertEqual([word for word in listed if word not in defined], [], name)

    def test_methods_are_defined_in_their_class(self):
        classes = {node.name: node for _, node in self.each_node() if isinstance(node, ast.ClassDef)}
        for name, listed in METHODS.items():
            self.assertEqual([word for word in listed if word not in definitions(classes[name])], [], name)

    def test_no_name_is_a_method_and_an_attribute(self):
        assigned = set()
        methods = set()
        for _, node in self.each_node():
            if isinstance(node, ast.Attribute) and isinstance(node.ctx, ast.Store):
                assigned.add(node.attr)
            if isinstance(node, ast.ClassDef):
                methods.update(definitions(node))
        self.assertEqual(assigned & methods, set())

    def test_imports_go_around_in_no_circle(self):
        imported = {}
        for name, tree in TREES.items():
            modules = [node.module for node in tree.body if isinstance(node, ast.ImportFrom)]
            imported[name] = {module.split(".")[1] + ".py" for module in modules if module.startswith("leastfit.")}
        while imported:
            free = [name for name, needed in imported.items() if not needed & set(imported)]
            self.assertNotEqual(free, [], imported)
            for name in free:
                del imported[name]

    def test_imported_names_are_used_and_have_no_other_meaning(self):
        for name, tree in TREES.items():
            imported = [alias.name for node in tree.body if isinstance(node, ast.ImportFrom) for alias in node.names]
            used = {node.id for node in ast.walk(tree) if isinstance(node, ast.Name)}
            self.assertEqual([word for word in imported if word not in used], [], name)
            self.assertEqual([word for word in imported if word in list(bound_names(tree))], [], name)

    def test_builtins(self):
        for name, node in self.each_node():
            if isinstance(node, ast.Name) and hasattr(builtins, node.id):
                self.assertIn(node.id, BUILTINS, name)

    def test_names(self):
        for name, tree in TREES.items():
            for bound in bound_names(tree):
                if re.fullmatch("__[a-z]+__", bound):
                    continue
                self.assertRegex(bound, "^_?[A-Za-z][A-Za-z0-9_]*$|^_$", name)
                self.assertFalse(hasattr(builtins, bound), f"{name}: {bound}")

    def test_statements_and_literals(self):
        barred = (ast.Global, ast.AsyncFunctionDef, ast.Await, ast.AsyncFor, ast.AsyncWith, ast.Div)
        for name, node in self.each_node():
            self.assertNotIsInstance(node, barred, name)
            if isinstance(node, ast.Constant):
                self.assertNotIsInstance(node.value, float, name)
                self.assertFalse(isinstance(node.value, str) and "%" in node.value, name)

    def test_generator_expressions_are_iterated_at_once(self):
        takers = ["list", "tuple", "dict", "sorted", "sum", "min", "max", "any", "all", "join"]
        for name, tree in TREES.items():
            taken = []
            for node in ast.walk(tree):
                if isinstance(node, ast.Call) and getattr(node.func, "id", getattr(node.func, "attr", "")) in takers:
                    taken += [id(argument) for argument in node.args]
            for node in ast.walk(tree):
                if isinstance(node, ast.GeneratorExp):
                    self.assertIn(id(node), taken, f"{name}:{node.lineno}")

    def test_handlers_name_own_errors(self):
        own = INTERFACE["errors"] + ["KeyError", "ZeroDivisionError", "StopIteration"]
        for name, node in self.each_node():
            if isinstance(node, ast.ExceptHandler):
                caught = node.type.elts if isinstance(node.type, ast.Tuple) else [node.type]
                self.assertEqual([error.id for error in caught if error.id not in own], [], f"{name}:{node.lineno}")

    def test_errors_are_created_where_they_are_raised(self):
        for name, node in self.each_node():
            if isinstance(node, ast.Raise) and node.exc is not None:
                self.assertIsInstance(node.exc, ast.Call, f"{name}:{node.lineno}")
                self.assertIn(node.exc.func.id, INTERFACE["errors"], f"{name}:{node.lineno}")

    def test_identity_of_none_and_truths_alone(self):
        for name, node in self.each_node():
            if isinstance(node, ast.Compare):
                for sign, other in zip(node.ops, node.comparators):
                    if isinstance(sign, (ast.Is, ast.IsNot)):
                        self.assertIn(ast.unparse(other), ("None", "True", "False"), f"{name}:{node.lineno}")

    def test_words_that_are_not_used(self):
        words = "type typing enum Enum Flag Generic Protocol ABC namedtuple NamedTuple dataclass overload open".split()
        for name, node in self.each_node():
            for attribute in ("name", "id", "attr", "arg"):
                self.assertNotIn(getattr(node, attribute, None), words, name)

    def each_node(self):
        for name, tree in TREES.items():
            for node in ast.walk(tree):
                yield name, node


if __name__ == "__main__":
    unittest.main()
