"""The form that the package's files keep: the rules that can be seen in a file's text and its tree."""

import ast
import builtins
import pathlib
import re
import unittest

PACKAGE = pathlib.Path(__file__).resolve().parent.parent / "worthroutes"

STATEMENTS = (
    "Module FunctionDef ClassDef Return Assign AugAssign For While If Raise Try ExceptHandler ImportFrom Expr "
    "Pass Break Continue arguments arg alias"
).split()
EXPRESSIONS = (
    "BoolOp BinOp UnaryOp Lambda IfExp Dict ListComp comprehension Compare Call keyword FormattedValue "
    "JoinedStr Constant Attribute Subscript Name List Tuple Slice Load Store"
).split()
OPERATORS = (
    "And Or Add Sub Mult FloorDiv Mod Pow LShift RShift BitOr BitXor BitAnd Invert Not USub Eq NotEq Lt LtE Gt "
    "GtE Is IsNot In NotIn"
).split()
OWN_NAMES = (
    "len range enumerate zip min max sum abs sorted reversed int str bool list tuple dict set frozenset "
    "isinstance ord repr any all divmod Exception ValueError TypeError KeyError IndexError LookupError "
    "ZeroDivisionError ArithmeticError OverflowError RuntimeError NotImplementedError AttributeError "
    "StopIteration"
).split()
METHODS = (
    "append clear copy count endswith extend find get index insert isalnum isalpha isdigit islower isspace "
    "isupper items join keys ljust lower lstrip partition pop remove replace reverse rfind rjust rpartition "
    "rsplit rstrip setdefault split splitlines startswith strip update upper values zfill bit_length"
).split()
UNUSED_WORDS = (
    "type typing typing_extensions enum Enum IntEnum StrEnum Flag IntFlag Generic Protocol ABC ABCMeta "
    "namedtuple NamedTuple TypedDict TYPE_CHECKING abstractmethod register mro elements open input "
    "version_info with_traceback add_note"
).split()
UNUSED_PARTS = ("dataclass", "overload", "contextmanager")
ON_THE_SPOT = ("zip", "enumerate", "reversed", "range")
CHANGES = ("append", "clear", "extend", "insert", "pop", "remove", "reverse", "setdefault", "update")
KEYWORDS = {"sorted": ("key", "reverse"), "min": ("key", "default"), "max": ("key", "default"), "sum": ("start",),
            "enumerate": ("start",), "zip": ("strict",)}
WALKERS = ("list", "tuple", "dict", "sorted", "sum", "any", "all", "enumerate", "zip", "min", "max")


def files():
    return sorted(PACKAGE.glob("*.py"))


def trees():
    return [(path.name, ast.parse(path.read_text(encoding="utf-8"))) for path in files()]


def every(kind):
    return [(name, one) for name, tree in trees() for one in ast.walk(tree) if isinstance(one, kind)]


def own_methods():
    found = []
    for name, one in every(ast.ClassDef):
        found += [inner.name for inner in one.body if isinstance(inner, ast.FunctionDef)]
    return found


def bound_names():
    found = [(name, one.id) for name, one in every(ast.Name) if isinstance(one.ctx, ast.Store)]
    found += [(name, one.arg) for name, one in every(ast.arg)]
    found += [(name, one.name) for name, one in every((ast.FunctionDef, ast.ClassDef))]
    return found


class FormTest(unittest.TestCase):
    def test_files(self):
        for path in PACKAGE.iterdir():
            if path.name != "__pycache__":
                self.assertRegex(path.name, r"^(__init__|[a-z][a-z0-9_]*)\.py$")

    def test_signs_and_size(self):
        for path in files():
            text = path.read_text(encoding="utf-8")
            rows = text.split("\n")
            self.assertLessEqual(len(rows), 401, path.name)
            for at, row in enumerate(rows, start=1):
                self.assertLessEqual(len(row), 120, (path.name, at))
                self.assertRegex(row, r"^[ -~]*$", (path.name, at))

    def test_functions_are_short(self):
        for name, one in every(ast.FunctionDef):
            self.assertLessEqual(one.end_lineno - one.lineno + 1, 40, (name, one.name))
            self.assertEqual(one.decorator_list, [], (name, one.name))
            self.assertIsNone(one.args.vararg or one.args.kwarg, (name, one.name))
            self.assertEqual(one.args.kwonlyargs, [], (name, one.name))

    def test_words(self):
        for path in files():
            words = re.findall(r"[A-Za-z0-9_]+", path.read_text(encoding="utf-8"))
            self.assertEqual([word for word in words if word in UNUSED_WORDS], [], path.name)
            for part in UNUSED_PARTS:
                self.assertNotIn(part, " ".join(words), path.name)

    def test_statements_and_expressions(self):
        allowed = STATEMENTS + EXPRESSIONS + OPERATORS
        for name, one in every(ast.AST):
            self.assertIn(one.__class__.__name__, allowed, (name, getattr(one, "lineno", 0)))

    def test_plain_values(self):
        for name, one in every(ast.Constant):
            self.assertIn(one.value.__class__.__name__, ("int", "str", "bool", "NoneType"), (name, one.lineno))

    def test_one_target_and_no_else_behind_a_loop(self):
        for name, one in every(ast.Assign):
            self.assertEqual(len(one.targets), 1, (name, one.lineno))
        for name, one in every((ast.For, ast.While)):
            self.assertEqual(one.orelse, [], (name, one.lineno))

    def test_comprehensions_are_small(self):
        for name, one in every(ast.ListComp):
            self.assertEqual(len(one.generators), 1, (name, one.lineno))
            self.assertLessEqual(len(one.generators[0].ifs), 1, (name, one.lineno))

    def test_is_stands_beside_none_true_and_false(self):
        for name, one in every(ast.Compare):
            for operator, right in zip(one.ops, one.comparators):
                if isinstance(operator, (ast.Is, ast.IsNot)):
                    self.assertIsInstance(right, ast.Constant, (name, one.lineno))

    def test_imports_are_the_packages_own(self):
        defined = {}
        for name, tree in trees():
            tops = [one.name for one in tree.body if isinstance(one, (ast.FunctionDef, ast.ClassDef))]
            for one in tree.body:
                if isinstance(one, ast.Assign):
                    tops.append(one.targets[0].id)
            defined["worthroutes." + name[:-3]] = tops
        for name, one in every(ast.ImportFrom):
            self.assertEqual(one.level, 0, (name, one.lineno))
            self.assertIn(one.module, defined, (name, one.lineno))
            for drawn in one.names:
                self.assertIn(drawn.name, defined[one.module], (name, one.lineno))

    def test_no_file_draws_from_itself_in_any_steps(self):
        left = {"worthroutes." + name[:-3]: [] for name, tree in trees()}
        for name, one in every(ast.ImportFrom):
            left["worthroutes." + name[:-3]].append(one.module)
        while left:
            free = [name for name in left if not any(drawn in left for drawn in left[name])]
            self.assertNotEqual(free, [], left)
            for name in free:
                left.pop(name)

    def test_names_are_plain_and_none_of_pythons_own(self):
        for name, bound in bound_names():
            if bound != "__init__":
                self.assertRegex(bound, r"^[A-Za-z][A-Za-z0-9_]*$", name)
                self.assertFalse(hasattr(builtins, bound), (name, bound))

    def test_only_some_of_pythons_own_names_are_used(self):
        for name, one in every(ast.Name):
            if hasattr(builtins, one.id):
                self.assertIn(one.id, OWN_NAMES, (name, one.lineno))

    def test_no_local_is_called_like_a_class_or_an_import(self):
        for name, tree in trees():
            taken = [one.name for one in tree.body if isinstance(one, ast.ClassDef)]
            for one in tree.body:
                if isinstance(one, ast.ImportFrom):
                    taken += [drawn.name for drawn in one.names]
            locals_here = [bound for where, bound in bound_names() if where == name]
            self.assertEqual([bound for bound in locals_here if bound in taken and not bound[0].isupper()], [], name)

    def test_methods(self):
        allowed = METHODS + own_methods()
        for name, one in every(ast.Call):
            if isinstance(one.func, ast.Attribute):
                self.assertIn(one.func.attr, allowed, (name, one.lineno))

    def test_no_name_is_a_method_and_a_value(self):
        values = [one.attr for name, one in every(ast.Attribute) if isinstance(one.ctx, ast.Store)]
        self.assertEqual([value for value in values if value in own_methods() + METHODS], [])

    def test_what_is_walked_is_walked_at_once(self):
        spots = [one.iter for name, one in every((ast.For, ast.comprehension))]
        for name, one in every(ast.Call):
            if isinstance(one.func, ast.Name) and one.func.id in WALKERS:
                spots += one.args
        at = [(spot.lineno, spot.col_offset) for spot in spots]
        for name, one in every(ast.Call):
            if isinstance(one.func, ast.Name) and one.func.id in ON_THE_SPOT:
                self.assertIn((one.lineno, one.col_offset), at, (name, one.lineno))

    def test_what_a_loop_walks_is_not_changed_in_it(self):
        for name, loop in every(ast.For):
            walked = [ast.dump(one) for one in ast.walk(loop.iter) if isinstance(one, (ast.Name, ast.Attribute))]
            for one in ast.walk(loop):
                if isinstance(one, ast.Call) and isinstance(one.func, ast.Attribute) and one.func.attr in CHANGES:
                    self.assertNotIn(ast.dump(one.func.value), walked, (name, one.lineno))
                if isinstance(one, ast.Subscript) and isinstance(one.ctx, ast.Store):
                    self.assertNotIn(ast.dump(one.value), walked, (name, one.lineno))

    def test_sets_are_only_counted_or_sorted(self):
        within = [
            (inner.lineno, inner.col_offset) for name, one in every(ast.Call)
            if isinstance(one.func, ast.Name) and one.func.id in ("len", "sorted") for inner in one.args
        ]
        for name, one in every(ast.Call):
            if isinstance(one.func, ast.Name) and one.func.id in ("set", "frozenset"):
                self.assertIn((one.lineno, one.col_offset), within, (name, one.lineno))

    def test_keywords(self):
        for name, one in every(ast.Call):
            allowed = KEYWORDS.get(one.func.id, ()) if isinstance(one.func, ast.Name) else ()
            for keyword in one.keywords:
                self.assertIn(keyword.arg, allowed, (name, one.lineno))

    def test_nothing_of_a_files_top_is_a_list_or_a_dict(self):
        for name, tree in trees():
            for one in tree.body:
                if isinstance(one, ast.Assign):
                    self.assertNotIsInstance(one.value, (ast.List, ast.Dict), (name, one.lineno))


if __name__ == "__main__":
    unittest.main()
