"""Checks those rules of LANGUAGE.md that a reading of the files can check."""

import ast
import builtins
import pathlib
import re
import unittest

FOLDER = pathlib.Path(__file__).resolve().parent.parent / "wordlines"
FILES = sorted(FOLDER.glob("*.py"))

CALLED = set(
    "len range enumerate zip min max sum abs sorted reversed int str bool list tuple dict set isinstance ord repr"
    " any all divmod ValueError LookupError ArithmeticError".split()
)
METHODS = set(
    "append clear copy count endswith extend find get index insert isalnum isalpha isdigit islower isspace isupper"
    " items join keys ljust lower lstrip partition pop remove replace reverse rfind rjust rpartition rsplit rstrip"
    " setdefault split splitlines startswith strip update upper values zfill bit_length add discard".split()
)
DOUBLE = {"__init__", "__eq__", "__repr__", "__str__", "__len__"}
BARRED_WORDS = (
    "type typing typing_extensions enum Enum IntEnum StrEnum Flag IntFlag Generic Protocol ABC ABCMeta namedtuple"
    " NamedTuple TypedDict TYPE_CHECKING abstractmethod"
).split()
BARRED_NAMES = set(
    "register mro elements open input version_info with_traceback add_note attrgetter breakpoint builtins compile"
    " copyright credits delattr dir eval exec exit gc getattr globals hasattr help id importlib license locals"
    " methodcaller os quit setattr super type vars sys".split()
)
BARRED_NODES = (
    ast.Global, ast.AsyncFunctionDef, ast.AsyncFor, ast.AsyncWith, ast.Await, ast.Import, ast.Div, ast.MatMult,
    ast.Yield, ast.YieldFrom, ast.NamedExpr, ast.With, ast.Match, ast.Nonlocal,
)
# With a class that has __eq__ these take a list (L7).
TAKE_LISTS = {"any", "all", "min", "max", "sum", "sorted"}


def nodes(tree, *kinds):
    return [node for node in ast.walk(tree) if isinstance(node, kinds)]


def own_attributes(tree):
    return {node.attr for node in nodes(tree, ast.Attribute) if isinstance(node.ctx, ast.Store)}


def own_methods(tree):
    return {part.name for owner in nodes(tree, ast.ClassDef) for part in owner.body if isinstance(part, ast.FunctionDef)}


class TestLanguage(unittest.TestCase):
    def setUp(self):
        self.texts = {path.name: path.read_text() for path in FILES}
        self.trees = {name: ast.parse(text) for name, text in self.texts.items()}

    def each(self, *kinds):
        for name, tree in self.trees.items():
            for node in nodes(tree, *kinds):
                yield f"{name}:{getattr(node, 'lineno', 0)}", node

    def test_files_and_signs(self):
        self.assertIn("__init__.py", self.texts)
        here = [path.name for path in FOLDER.iterdir() if path.name != "__pycache__"]
        self.assertEqual(sorted(here), sorted(self.texts))
        for name, text in self.texts.items():
            self.assertTrue(re.fullmatch(r"[a-z_0-9]+\.py", name), name)
            self.assertTrue(all(sign == "\n" or " " <= sign <= "~" for sign in text), name)
            lines = text.split("\n")
            self.assertLessEqual(len(lines), 400, name)
            self.assertLessEqual(max(len(line) for line in lines), 120, name)
            for word in BARRED_WORDS:
                self.assertIsNone(re.search(rf"\b{word}\b", text), f"{name}: {word}")

    def test_functions_are_short_and_without_decorators(self):
        for where, node in self.each(ast.FunctionDef):
            self.assertLessEqual(node.end_lineno - node.lineno + 1, 40, where)
            self.assertEqual(node.decorator_list, [], where)
            self.assertEqual(node.args.posonlyargs, [], where)

    def test_imports(self):
        for where, node in self.each(ast.ImportFrom):
            self.assertTrue(node.module.startswith("wordlines."), where)
            self.assertEqual(node.level, 0, where)
            file = node.module.split(".")[1] + ".py"
            bound = {part.name for part in self.trees[file].body if hasattr(part, "name")}
            bound |= {target.id for part in self.trees[file].body if isinstance(part, ast.Assign) for target in part.targets}
            for name in node.names:
                self.assertIn(name.name, bound, where)
                self.assertIsNone(name.asname, where)

    def test_all_imports_are_used(self):
        for name, tree in self.trees.items():
            read = {node.id for node in nodes(tree, ast.Name)}
            for node in nodes(tree, ast.ImportFrom):
                for imported in node.names:
                    self.assertIn(imported.name, read, name)

    def test_no_barred_statement_or_sign(self):
        for where, node in self.each(*BARRED_NODES):
            self.fail(f"{where}: {type(node).__name__}")
        for where, node in self.each(ast.Constant):
            self.assertNotIsInstance(node.value, float, where)
            if isinstance(node.value, str):
                self.assertNotIn("%", node.value, where)

    def test_names(self):
        known = set(dir(builtins))
        for name, tree in self.trees.items():
            taken = {imported.name for node in nodes(tree, ast.ImportFrom) for imported in node.names}
            taken |= {node.name for node in nodes(tree, ast.ClassDef)}
            local = {node.id for node in nodes(tree, ast.Name) if isinstance(node.ctx, ast.Store)}
            local |= {node.arg for node in nodes(tree, ast.arg)}
            for bound in local:
                self.assertNotIn(bound, taken | known | BARRED_NAMES, name)
                self.assertFalse(bound.startswith("_"), f"{name}: {bound}")
            for node in nodes(tree, ast.FunctionDef):
                self.assertTrue(node.name in DOUBLE or not node.name.startswith("_"), name)
                self.assertNotIn(node.name, BARRED_NAMES | known, name)

    def test_builtins(self):
        for name, tree in self.trees.items():
            for node in nodes(tree, ast.Name):
                if hasattr(builtins, node.id):
                    self.assertIn(node.id, CALLED, f"{name}:{node.lineno}")

    def test_methods_that_are_called(self):
        own = set().union(*[own_methods(tree) for tree in self.trees.values()])
        for where, node in self.each(ast.Call):
            if isinstance(node.func, ast.Attribute):
                self.assertIn(node.func.attr, METHODS | own, where)

    def test_no_name_is_both_a_method_and_an_attribute(self):
        methods = set().union(*[own_methods(tree) for tree in self.trees.values()])
        attributes = set().union(*[own_attributes(tree) for tree in self.trees.values()])
        self.assertEqual(methods & attributes, set())

    def test_what_takes_a_list(self):
        for where, node in self.each(ast.Call):
            if isinstance(node.func, ast.Name) and node.func.id in TAKE_LISTS:
                self.assertFalse(any(isinstance(arg, ast.GeneratorExp) for arg in node.args), where)

    def test_is_stands_beside_plain_constants(self):
        for where, node in self.each(ast.Compare):
            for sign, right in zip(node.ops, node.comparators):
                if isinstance(sign, (ast.Is, ast.IsNot)):
                    self.assertTrue(isinstance(right, ast.Constant) and right.value in (None, True, False), where)

    def test_double_underscore_methods_assign_nothing(self):
        for where, node in self.each(ast.FunctionDef):
            if node.name in DOUBLE - {"__init__"}:
                self.assertEqual(nodes(node, ast.Assign, ast.AugAssign, ast.Delete), [], where)
                self.assertIsInstance(node.body[-1], ast.Return, where)

    def test_errors_are_made_where_they_are_raised(self):
        for where, node in self.each(ast.Raise):
            self.assertTrue(isinstance(node.exc, ast.Call) and isinstance(node.exc.func, ast.Name), where)
        for where, node in self.each(ast.ExceptHandler):
            caught = node.type.elts if isinstance(node.type, ast.Tuple) else [node.type]
            self.assertFalse(any(hasattr(builtins, kind.id) for kind in caught), where)

    def test_module_level(self):
        for name, tree in self.trees.items():
            bound = []
            for node in tree.body:
                self.assertIsInstance(
                    node, (ast.Expr, ast.ImportFrom, ast.FunctionDef, ast.ClassDef, ast.Assign), name)
                if isinstance(node, ast.Assign):
                    self.look_at_value(node.value, {part.name for part in tree.body if isinstance(part, ast.FunctionDef)
                                                    and part.lineno < node.lineno}, name)
                    bound += [target.id for target in node.targets]
                elif isinstance(node, ast.ImportFrom):
                    bound += [imported.name for imported in node.names]
                elif not isinstance(node, ast.Expr):
                    bound.append(node.name)
                else:
                    self.assertIsInstance(node.value, ast.Constant, name)
            self.assertEqual(len(bound), len(set(bound)), name)

    def look_at_value(self, value, functions, name):
        """A value is written out, or it is a table of functions that are defined above it."""
        if isinstance(value, ast.Dict) and all(isinstance(part, ast.Name) for part in value.values):
            for key, part in zip(value.keys, value.values):
                ast.literal_eval(key)
                self.assertIn(part.id, functions, name)
        else:
            ast.literal_eval(value)

    def test_the_checker_imports_words_and_lands_alone(self):
        modules = {node.module for node in nodes(self.trees["checker.py"], ast.ImportFrom)}
        self.assertEqual(modules, {"wordlines.words", "wordlines.lands"})

    def test_no_two_files_import_from_each_other(self):
        needs = {name[:-3]: {node.module.split(".")[1] for node in nodes(tree, ast.ImportFrom)}
                 for name, tree in self.trees.items()}
        while needs:
            free = [name for name in needs if not needs[name] & set(needs)]
            self.assertTrue(free, f"in a circle: {sorted(needs)}")
            for name in free:
                del needs[name]


if __name__ == "__main__":
    unittest.main()
