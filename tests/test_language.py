"""The form of the package's files: the rules of LANGUAGE.md that a look at the syntax can hold."""

import ast
import builtins
import pathlib
import re
import unittest

PACKAGE = pathlib.Path(__file__).resolve().parent.parent / "shapestring"

OWN_NAMES = set("""len range enumerate zip min max sum abs sorted reversed int str bool bytes list tuple dict set
frozenset isinstance ord repr any all divmod Exception ValueError TypeError KeyError IndexError LookupError
ZeroDivisionError ArithmeticError OverflowError RuntimeError NotImplementedError AttributeError
StopIteration""".split())
OWN_METHODS = set("""append clear copy count endswith extend find get index insert isalnum isalpha isdigit islower
isspace isupper items join keys ljust lower lstrip partition pop remove replace reverse rfind rjust rpartition rsplit
rstrip setdefault split splitlines startswith strip update upper values zfill bit_length isascii sort add discard
removeprefix removesuffix __init__""".split())
METHODS_WITH_UNDERSCORES = ("__init__", "__eq__", "__repr__", "__str__", "__len__")
WORDS_THAT_STAND_NOWHERE = set("""type typing typing_extensions enum Enum IntEnum StrEnum Flag IntFlag Generic
Protocol ABC ABCMeta namedtuple NamedTuple TypedDict TYPE_CHECKING abstractmethod""".split())
NAMES_NOT_USED = set("""register mro elements open input version_info with_traceback add_note format format_map
attrgetter breakpoint builtins compile copyright credits delattr dir eval exec exit gc getattr globals hasattr help id
importlib license locals methodcaller os quit setattr super type vars sys""".split())
FORMS_NOT_USED = (ast.With, ast.Match, ast.Global, ast.Nonlocal, ast.Yield, ast.YieldFrom, ast.AsyncFunctionDef,
                  ast.Await, ast.AsyncFor, ast.AsyncWith, ast.GeneratorExp, ast.NamedExpr, ast.Div, ast.Import,
                  ast.TryStar)


def files():
    return sorted(path for path in PACKAGE.iterdir() if path.name != "__pycache__")


def trees():
    return {path.name: ast.parse(path.read_text("ascii")) for path in files()}


def nodes(kind):
    """All nodes of the kind, with the file's name."""
    return [(name, node) for name, tree in trees().items() for node in ast.walk(tree) if isinstance(node, kind)]


def class_names(gather):
    """The methods, or the values given through self, of all classes."""
    found = set()
    for file, node in nodes(ast.ClassDef):
        for each in ast.walk(node):
            if gather == "methods" and isinstance(each, ast.FunctionDef):
                found.add(each.name)
            if gather == "values" and isinstance(each, ast.Attribute) and isinstance(each.ctx, ast.Store):
                found.add(each.attr)
    return found


def top_names(tree):
    """All names that are bound at a file's top."""
    bound = []
    for row in tree.body:
        if isinstance(row, ast.ImportFrom):
            bound += [each.asname or each.name for each in row.names]
        if isinstance(row, (ast.FunctionDef, ast.ClassDef)):
            bound.append(row.name)
        if isinstance(row, ast.Assign):
            bound += [target.id for target in row.targets]
    return bound


class FilesTest(unittest.TestCase):

    def test_python_files_alone_with_plain_names(self):
        for path in files():
            self.assertRegex(path.name, r"^([a-z][a-z0-9_]*|__init__|__main__)\.py$")

    def test_signs_and_sizes(self):
        for path in files():
            text = path.read_bytes().decode("ascii")
            self.assertRegex(text, r"\A[ -~\n]*\Z")
            rows = text.splitlines()
            self.assertLessEqual(len(rows), 400, path.name)
            self.assertLessEqual(max(len(row) for row in rows), 120, path.name)

    def test_functions_are_short(self):
        for file, node in nodes(ast.FunctionDef):
            self.assertLessEqual(node.end_lineno - node.lineno + 1, 40, (file, node.name))

    def test_words_that_stand_nowhere(self):
        for path in files():
            words = set(re.findall(r"\w+", path.read_text("ascii")))
            self.assertEqual(words & WORDS_THAT_STAND_NOWHERE, set(), path.name)
            self.assertNotRegex(path.read_text("ascii"), "dataclass|overload|contextmanager")


class FormsTest(unittest.TestCase):

    def test_forms_that_are_not_used(self):
        self.assertEqual([(file, node.lineno) for file, node in nodes(FORMS_NOT_USED)], [])

    def test_imports_are_the_packages_own_from_the_defining_file(self):
        for file, node in nodes(ast.ImportFrom):
            self.assertEqual(node.level, 0, file)
            self.assertTrue(node.module.startswith("shapestring."), file)
            source = trees()[node.module.split(".")[1] + ".py"]
            for each in node.names:
                bound = [row.name for row in source.body if isinstance(row, (ast.FunctionDef, ast.ClassDef))]
                for row in source.body:
                    if isinstance(row, ast.Assign):
                        bound += [target.id for target in row.targets]
                self.assertIn(each.name, bound, file)

    def test_the_top_of_a_module(self):
        for file, tree in trees().items():
            for row in tree.body:
                self.assertIsInstance(row, (ast.Expr, ast.ImportFrom, ast.Assign, ast.FunctionDef, ast.ClassDef))
                if isinstance(row, ast.Expr):
                    self.assertIsInstance(row.value, ast.Constant, file)

    def test_functions_have_plain_parameters(self):
        for file, node in nodes(ast.FunctionDef):
            self.assertEqual(node.decorator_list, [], (file, node.name))
            self.assertEqual((node.args.vararg, node.args.kwarg, node.args.posonlyargs), (None, None, []))

    def test_classes_hold_methods_alone(self):
        for file, node in nodes(ast.ClassDef):
            self.assertLessEqual(len(node.bases), 1)
            self.assertEqual(node.decorator_list, [])
            for row in node.body:
                self.assertIsInstance(row, (ast.Expr, ast.FunctionDef), (file, node.name))

    def test_no_floats_and_no_formats(self):
        for file, node in nodes(ast.Constant):
            self.assertNotIsInstance(node.value, (float, complex), file)
        for file, node in nodes(ast.FormattedValue):
            self.assertIsNone(node.format_spec, file)

    def test_is_stands_beside_none_and_truths_alone(self):
        for file, node in nodes(ast.Compare):
            for sign, right in zip(node.ops, node.comparators):
                if isinstance(sign, (ast.Is, ast.IsNot)):
                    self.assertIn(getattr(right, "value", 0), (None, True, False), (file, node.lineno))


    def test_raise_makes_its_error_on_the_spot(self):
        errors = {node.name for file, node in nodes(ast.ClassDef) if file == "errors.py"}
        for file, node in nodes(ast.Raise):
            self.assertIsInstance(node.exc, ast.Call, (file, node.lineno))
            self.assertIn(node.exc.func.id, errors, (file, node.lineno))

    def test_errors_are_taken_by_name(self):
        errors = {node.name for file, node in nodes(ast.ClassDef) if file == "errors.py"}
        for file, node in nodes(ast.ExceptHandler):
            self.assertIn(node.type.id, errors, (file, node.lineno))

    def test_what_is_walked_at_once_is_not_kept(self):
        for file, node in nodes((ast.Assign, ast.Return)):
            if isinstance(node.value, ast.Call):
                called = getattr(node.value.func, "id", None) or getattr(node.value.func, "attr", None)
                self.assertNotIn(called, ("zip", "enumerate", "reversed", "range", "items", "keys", "values"),
                                 (file, node.lineno))

    def test_sets_are_not_written(self):
        # The program keeps dicts instead, so no rule about sets can be broken.
        self.assertEqual(nodes((ast.Set, ast.SetComp)), [])
        self.assertEqual([file for file, node in nodes(ast.Name) if node.id in ("set", "frozenset")], [])

    def test_nothing_is_deleted_by_del(self):
        self.assertEqual(nodes(ast.Delete), [])

    def test_no_files_draw_from_one_another(self):
        drawn = {file: set() for file in trees()}
        for file, node in nodes(ast.ImportFrom):
            drawn[file].add(node.module.split(".")[1] + ".py")
        left = dict(drawn)
        while left:
            free = [file for file in left if not drawn[file] & set(left)]
            self.assertNotEqual(free, [], sorted(left))
            for file in free:
                left.pop(file)


class NamesTest(unittest.TestCase):

    def test_names_are_bound_once_at_the_top(self):
        for file, tree in trees().items():
            bound = top_names(tree)
            self.assertEqual(sorted(set(bound)), sorted(bound), file)

    def test_no_local_is_called_like_an_import_a_class_or_a_def(self):
        for file, tree in trees().items():
            for def_ in [node for node in ast.walk(tree) if isinstance(node, ast.FunctionDef)]:
                given = {node.id for node in ast.walk(def_) if isinstance(node, ast.Name)
                         and isinstance(node.ctx, ast.Store)}
                given |= {node.arg for node in ast.walk(def_) if isinstance(node, ast.arg)}
                self.assertEqual(given & set(top_names(tree)), set(), (file, def_.name))
                self.assertEqual(given & set(dir(builtins)), set(), (file, def_.name))

    def test_pythons_own_names(self):
        for file, node in nodes(ast.Name):
            if node.id in dir(builtins):
                self.assertIn(node.id, OWN_NAMES, (file, node.lineno))
                self.assertIsInstance(node.ctx, ast.Load, (file, node.lineno))

    def test_names_are_plain(self):
        for file, node in nodes((ast.Name, ast.arg, ast.FunctionDef, ast.ClassDef)):
            name = getattr(node, "id", None) or getattr(node, "arg", None) or node.name
            self.assertNotIn(name, NAMES_NOT_USED, file)
            if name not in METHODS_WITH_UNDERSCORES:
                self.assertRegex(name, r"^[A-Za-z][A-Za-z0-9_]*$")
            if isinstance(node, ast.arg):
                self.assertNotIn(name, dir(builtins), file)

    def test_methods_called_are_listed_or_the_packages_own(self):
        methods = class_names("methods")
        for file, node in nodes(ast.Call):
            if isinstance(node.func, ast.Attribute):
                self.assertIn(node.func.attr, methods | OWN_METHODS, (file, node.lineno))

    def test_no_name_is_a_method_and_a_value(self):
        methods = class_names("methods")
        values = class_names("values")
        self.assertEqual(methods & values, set())
        # The interface of later stages, too, has these as methods.
        later = set("loops gate come put triples skin side wound deeds do undo".split())
        self.assertEqual(values & later, set())


if __name__ == "__main__":
    unittest.main()
