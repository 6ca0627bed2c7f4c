"""The package's files keep to the part of Python that is agreed on, as far as a reading of them can tell."""

import ast
import builtins
import pathlib
import re
import unittest

FOLDER = pathlib.Path(__file__).resolve().parent.parent / "roomslaid"
FILES = sorted(FOLDER.rglob("*.py"))

OWN_BUILTINS = set(
    "len range enumerate zip min max sum abs sorted reversed int str bool bytes list tuple dict set frozenset isinstance "
    "ord repr any all divmod Exception ValueError TypeError KeyError IndexError LookupError ZeroDivisionError "
    "ArithmeticError OverflowError RuntimeError NotImplementedError AttributeError StopIteration".split())
VALUE_METHODS = set(
    "append clear copy count endswith extend find get index insert isalnum isalpha isdigit islower isspace isupper items "
    "join keys ljust lower lstrip partition pop remove replace reverse rfind rjust rpartition rsplit rstrip setdefault "
    "split splitlines startswith strip update upper values zfill bit_length sort".split())
UNUSED_NAMES = set(
    "register mro elements open input version_info with_traceback add_note attrgetter breakpoint builtins compile "
    "copyright credits delattr dir eval exec exit gc getattr globals hasattr help id importlib license locals "
    "methodcaller os quit setattr super type vars sys format format_map chr".split())
UNUSED_WORDS = re.compile(
    r"\b(type|typing|typing_extensions|enum|Enum|IntEnum|StrEnum|Flag|IntFlag|Generic|Protocol|ABC|ABCMeta|namedtuple"
    r"|NamedTuple|TypedDict|TYPE_CHECKING|abstractmethod)\b|dataclass|overload|contextmanager")
UNUSED_FORMS = (
    ast.GeneratorExp, ast.Yield, ast.YieldFrom, ast.With, ast.Match, ast.Global, ast.Nonlocal, ast.AsyncFunctionDef,
    ast.Await, ast.AsyncFor, ast.AsyncWith, ast.NamedExpr, ast.Div, ast.MatMult, ast.Set, ast.SetComp, ast.Import)
CLASS_METHODS = {"__init__", "__eq__", "__repr__", "__str__", "__len__"}


def tree_of(file):
    """The file, read."""
    return ast.parse(file.read_text(encoding="utf-8"))


def nodes(kind):
    """All nodes of this kind, each with its file."""
    return [(file, node) for file in FILES for node in ast.walk(tree_of(file)) if isinstance(node, kind)]


def where(file, node):
    """The place that a failure tells."""
    return "%s line %s" % (file.name, getattr(node, "lineno", "?"))


def top_names(file):
    """The names that the top of the file binds, imports left out."""
    names = []
    for node in tree_of(file).body:
        if isinstance(node, (ast.FunctionDef, ast.ClassDef)):
            names.append(node.name)
        if isinstance(node, ast.Assign):
            names.extend(target.id for target in node.targets)
    return names


def given_names(function):
    """The parameters and locals of a function."""
    names = [part.arg for part in ast.walk(function) if isinstance(part, ast.arg)]
    return names + [part.id for part in ast.walk(function) if isinstance(part, ast.Name) and isinstance(part.ctx, ast.Store)]


def is_walk(function):
    """Whether what is called makes something that is walked once, on the spot."""
    if isinstance(function, ast.Attribute):
        return function.attr in ("items", "keys", "values")
    return getattr(function, "id", "") in ("zip", "enumerate", "reversed", "range")


def is_walked_by(holder, walk):
    """Whether the node around such a call walks it on the spot."""
    if isinstance(holder, (ast.For, ast.comprehension)):
        return holder.iter is walk
    if isinstance(holder, ast.Call) and isinstance(holder.func, ast.Name):
        walkers = ("list", "tuple", "dict", "sorted", "sum", "any", "all", "enumerate", "zip", "min", "max")
        return holder.func.id in walkers and holder.args[0] is walk
    return False


class Files(unittest.TestCase):

    def test_nothing_else_lies_in_the_package(self):
        found = [path for path in FOLDER.rglob("*") if "__pycache__" not in path.parts]
        self.assertEqual(sorted(found), FILES)
        self.assertIn(FOLDER / "__init__.py", FILES)
        for file in FILES:
            self.assertRegex(file.name, r"\A[a-z0-9_]+\.py\Z")
            self.assertNotIn(file.stem, dir(builtins))

    def test_signs_and_sizes(self):
        for file in FILES:
            text = file.read_text(encoding="utf-8")
            self.assertRegex(text, r"\A[ -~\n]*\Z", file.name)
            lines = text.split("\n")
            self.assertLessEqual(len(lines), 400, file.name)
            self.assertLessEqual(max(len(line) for line in lines), 120, file.name)
            self.assertIsNone(UNUSED_WORDS.search(text), file.name)

    def test_functions_are_short(self):
        for file, node in nodes(ast.FunctionDef):
            self.assertLessEqual(node.end_lineno - node.lineno + 1, 40, where(file, node))


class Tops(unittest.TestCase):

    def test_what_stands_at_the_top(self):
        allowed = (ast.ImportFrom, ast.FunctionDef, ast.ClassDef, ast.Assign)
        for file in FILES:
            body = tree_of(file).body
            self.assertIsNotNone(ast.get_docstring(tree_of(file)), file.name)
            for node in body[1:]:
                self.assertIsInstance(node, allowed, where(file, node))
            drawn = [isinstance(node, ast.ImportFrom) for node in body[1:]]
            self.assertEqual(drawn, sorted(drawn, reverse=True), file.name)
            self.assertEqual(len(set(top_names(file))), len(top_names(file)), file.name)

    def test_imports_draw_from_the_file_that_defines_the_name(self):
        for file, node in nodes(ast.ImportFrom):
            self.assertRegex(node.module, r"\Aroomslaid\.[a-z]+\Z", where(file, node))
            source = FOLDER / (node.module.split(".")[1] + ".py")
            text = file.read_text(encoding="utf-8")
            for alias in node.names:
                self.assertIsNone(alias.asname, where(file, node))
                self.assertIn(alias.name, top_names(source), where(file, node))
                self.assertGreater(len(re.findall(r"\b%s\b" % alias.name, text)), 1, (file.name, alias.name))

    def test_no_two_files_draw_from_one_another(self):
        drawn = {}
        for file, node in nodes(ast.ImportFrom):
            drawn.setdefault(file.stem, set()).add(node.module.split(".")[1])

        def reach(stem, seen):
            for other in drawn.get(stem, set()) - seen:
                seen.add(other)
                reach(other, seen)
            return seen

        for stem in drawn:
            self.assertNotIn(stem, reach(stem, set()))


class Forms(unittest.TestCase):

    def test_forms_that_are_not_used(self):
        for file, node in nodes(UNUSED_FORMS):
            self.fail(where(file, node))
        for file, node in nodes((ast.For, ast.While)):
            self.assertEqual(node.orelse, [], where(file, node))
        for file, node in nodes((ast.FunctionDef, ast.ClassDef)):
            self.assertEqual(node.decorator_list, [], where(file, node))
        for file, node in nodes(ast.arguments):
            self.assertFalse(node.vararg or node.kwarg or node.posonlyargs, file.name)

    def test_written_values(self):
        for file, node in nodes(ast.Constant):
            self.assertNotIsInstance(node.value, (float, complex), where(file, node))
            if isinstance(node.value, str):
                self.assertNotIn("%", node.value, where(file, node))

    def test_powers_have_a_written_exponent(self):
        for file, node in nodes(ast.BinOp):
            if isinstance(node.op, ast.Pow):
                self.assertIsInstance(node.right, ast.Constant, where(file, node))

    def test_is_stands_beside_none_and_truths(self):
        for file, node in nodes(ast.Compare):
            for sign, side in zip(node.ops, node.comparators):
                if isinstance(sign, (ast.Is, ast.IsNot)):
                    self.assertIn(getattr(side, "value", ""), (None, True, False), where(file, node))

    def test_walks_are_walked_on_the_spot(self):
        for file in FILES:
            tree = tree_of(file)
            above = {part: node for node in ast.walk(tree) for part in ast.iter_child_nodes(node)}
            for node in ast.walk(tree):
                if isinstance(node, ast.Call) and is_walk(node.func):
                    self.assertTrue(is_walked_by(above[node], node), where(file, node))

    def test_errors_are_made_on_the_spot(self):
        made = top_names(FOLDER / "errors.py")
        for file, node in nodes(ast.Raise):
            self.assertIsInstance(node.exc, ast.Call, where(file, node))
            self.assertIn(node.exc.func.id, made, where(file, node))


    def test_what_stands_in_a_finally(self):
        for file, node in nodes(ast.Try):
            for row in node.finalbody:
                self.assertIsInstance(row, ast.Assign, where(file, row))
                self.assertIsInstance(row.value, (ast.Name, ast.Attribute, ast.Constant, ast.List, ast.Tuple), where(file, row))

    def test_methods_of_objects_are_called_where_they_stand(self):
        methods = {part.name for file, node in nodes(ast.ClassDef) for part in node.body if isinstance(part, ast.FunctionDef)}
        for file in FILES:
            tree = tree_of(file)
            called = {id(node.func) for node in ast.walk(tree) if isinstance(node, ast.Call)}
            for node in ast.walk(tree):
                if isinstance(node, ast.Attribute) and node.attr in methods:
                    self.assertIn(id(node), called, where(file, node))

    def test_lists_and_dicts_of_a_top_hold_no_others(self):
        for file in FILES:
            for row in tree_of(file).body:
                if isinstance(row, ast.Assign):
                    inner = [node for node in ast.walk(row.value) if isinstance(node, (ast.List, ast.Dict)) and node is not row.value]
                    self.assertEqual(inner, [], where(file, row))


class Names(unittest.TestCase):

    def test_names_are_plain(self):
        for file, node in nodes((ast.Name, ast.arg, ast.FunctionDef, ast.ClassDef, ast.Attribute)):
            name = getattr(node, "id", None) or getattr(node, "arg", None) or getattr(node, "name", None)
            name = name or node.attr
            self.assertNotIn(name, UNUSED_NAMES, where(file, node))
            self.assertTrue(not name.startswith("_") or name in CLASS_METHODS, where(file, node))

    def test_of_pythons_own_names_these_alone_are_used(self):
        for file, node in nodes(ast.Name):
            if node.id in dir(builtins):
                self.assertIn(node.id, OWN_BUILTINS, where(file, node))
                self.assertIsInstance(node.ctx, ast.Load, where(file, node))

    def test_parameters_and_locals_have_names_of_their_own(self):
        for file, node in nodes(ast.FunctionDef):
            drawn = [alias.name for row in tree_of(file).body if isinstance(row, ast.ImportFrom) for alias in row.names]
            for name in given_names(node):
                self.assertNotIn(name, dir(builtins), where(file, node))
                self.assertNotIn(name, drawn, where(file, node))


class Classes(unittest.TestCase):

    def methods(self):
        return {part.name for file, node in nodes(ast.ClassDef) for part in node.body if isinstance(part, ast.FunctionDef)}

    def values(self):
        return {node.attr for file, node in nodes(ast.Attribute) if isinstance(node.ctx, ast.Store)}

    def test_they_hold_methods_alone(self):
        for file, node in nodes(ast.ClassDef):
            self.assertLessEqual(len(node.bases), 1, where(file, node))
            self.assertIsNotNone(ast.get_docstring(node), where(file, node))
            for part in node.body[1:]:
                self.assertIsInstance(part, ast.FunctionDef, where(file, part))
            named = [part.name for part in node.body[1:]]
            self.assertEqual(len(set(named)), len(named), where(file, node))

    def test_no_name_is_a_method_and_a_value(self):
        self.assertEqual(self.methods() & self.values(), set())

    def test_what_is_asked_of_a_thing_is_known(self):
        known = self.methods() | self.values() | VALUE_METHODS
        for file, node in nodes(ast.Attribute):
            self.assertIn(node.attr, known, where(file, node))

    def test_methods_of_one_name_take_the_same(self):
        taken = {}
        for file, node in nodes(ast.ClassDef):
            for part in node.body:
                if isinstance(part, ast.FunctionDef) and part.name != "__init__":
                    names = [argument.arg for argument in part.args.args]
                    self.assertEqual(taken.setdefault(part.name, names), names, where(file, part))


if __name__ == "__main__":
    unittest.main()
