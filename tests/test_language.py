"""The rules of LANGUAGE.md that are easily seen in the code of the package, and the examples of README.md."""

import ast
import pathlib
import re
import unittest
import warnings

PACKAGE = pathlib.Path(__file__).resolve().parent.parent / "midswitch"
BUILTINS = """len range enumerate zip min max sum abs sorted reversed int str bool bytes list tuple dict set
isinstance ord repr any all divmod iter next Exception ValueError TypeError KeyError IndexError LookupError
ZeroDivisionError ArithmeticError OverflowError RuntimeError NotImplementedError AttributeError StopIteration
NotImplemented super property staticmethod classmethod""".split()
BARRED = re.compile(r"""\b(type|typing|typing_extensions|enum|Enum|IntEnum|StrEnum|Flag|IntFlag|Generic|Protocol|ABC
|ABCMeta|namedtuple|NamedTuple|TypedDict|TYPE_CHECKING|abstractmethod)\b|dataclass|overload|contextmanager""", re.X)
NAMES = """register mro elements open input law version_info with_traceback add_note compile copyright dir eval exec
exit gc getattr globals hasattr help id license locals os quit setattr type vars sys format""".split()
OPERATORS = "add sub mul floordiv mod and or xor lshift rshift".split()
DUNDERS = """init eq repr str len enter exit call iter lt le gt ge ne pow ipow neg pos invert abs bool contains
getitem setitem""".split() + [sign + name for name in OPERATORS for sign in ("", "r", "i")]
UNCHANGING = [name for name in DUNDERS if name not in ("init", "enter", "exit", "call", "iter")]
REFUSED = (ast.Global, ast.AsyncFunctionDef, ast.AsyncFor, ast.AsyncWith, ast.Await, ast.Div)
LISTS = ("any", "all", "sum", "min", "max", "sorted")


def sources():
    return [(path, path.read_text(encoding="utf-8")) for path in sorted(PACKAGE.rglob("*.py"))]


def nodes():
    for path, text in sources():
        for node in ast.walk(ast.parse(text)):
            yield f"{path.name}:{getattr(node, 'lineno', 0)}", node


def functions():
    for where, node in nodes():
        if isinstance(node, ast.FunctionDef):
            yield where, node


def called_names(function):
    """The names of what a function calls, or reads off an object (a method, or a property)."""
    names = set()
    for node in ast.walk(function):
        if isinstance(node, ast.Call) and isinstance(node.func, ast.Name):
            names.add(node.func.id)
        if isinstance(node, ast.Attribute):
            names.add(node.attr)
    return names


def reached_by_operators():
    """All functions to which an operator or a property comes by calls at any depth; what has the same name counts, too."""
    bodies = {}
    for where, node in nodes():
        if isinstance(node, ast.FunctionDef):
            bodies.setdefault(node.name, []).append((where, node))
        if isinstance(node, ast.ClassDef):
            makers = [row for row in node.body if isinstance(row, ast.FunctionDef) and row.name == "__init__"]
            bodies.setdefault(node.name, []).extend([(where, maker) for maker in makers])
    waiting = [name for name in bodies if name[2:-2] in UNCHANGING]
    waiting += [node.name for where, node in nodes() if isinstance(node, ast.FunctionDef)
                and "property" in [ast.unparse(decorator) for decorator in node.decorator_list]]
    seen = set(waiting)
    while waiting:
        for where, function in bodies.get(waiting.pop(), []):
            yield where, function
            waiting += [name for name in called_names(function) if name in bodies and name not in seen]
            seen.update(waiting)


def bound_names(node):
    if isinstance(node, ast.Name) and isinstance(node.ctx, ast.Store):
        return [node.id]
    if isinstance(node, (ast.FunctionDef, ast.ClassDef)):
        return [node.name]
    if isinstance(node, ast.arg):
        return [node.arg]
    return []


class LanguageTest(unittest.TestCase):

    def test_the_folder_contains_only_source_files(self):
        for path in PACKAGE.rglob("*"):
            if "__pycache__" not in path.parts:
                self.assertRegex(path.name, r"^[a-z0-9_]+\.py$")

    def test_characters_and_sizes(self):
        for path, text in sources():
            self.assertEqual([letter for letter in text if letter != "\n" and not " " <= letter <= "~"], [], path)
            lines = text.split("\n")
            self.assertLessEqual(len(lines), 400, path)
            self.assertLessEqual(max(map(len, lines)), 120, path)
            self.assertIsNone(BARRED.search(text), path)
        for where, node in functions():
            self.assertLessEqual(node.end_lineno - node.lineno + 1, 40, where)

    def test_no_warnings(self):
        with warnings.catch_warnings():
            warnings.simplefilter("error")
            for path, text in sources():
                compile(text, str(path), "exec")

    def test_imports(self):
        for where, node in nodes():
            self.assertNotIsInstance(node, ast.Import, where)
            if isinstance(node, ast.ImportFrom):
                self.assertTrue(node.level == 0 and node.module.startswith("midswitch."), where)
                self.assertEqual([alias.name for alias in node.names if alias.name == "*"], [], where)

    def test_no_module_imports_in_a_circle(self):
        needs = {path.stem: re.findall(r"^from midswitch\.(\w+)", text, re.M) for path, text in sources()}
        while needs:
            free = [name for name in needs if not [other for other in needs[name] if other in needs]]
            self.assertTrue(free, sorted(needs))
            needs = {name: needs[name] for name in needs if name not in free}

    def test_statements_and_signs(self):
        for where, node in nodes():
            self.assertNotIsInstance(node, REFUSED, where)
            if isinstance(node, ast.Compare):
                for sign, right in zip(node.ops, node.comparators):
                    if isinstance(sign, (ast.Is, ast.IsNot)):
                        self.assertTrue(isinstance(right, ast.Constant) and right.value in (None, True, False), where)
            if isinstance(node, ast.Constant):
                self.assertNotIsInstance(node.value, (float, complex), where)
                self.assertFalse(isinstance(node.value, str) and "%" in node.value, where)

    def test_names(self):
        for where, node in nodes():
            for name in bound_names(node):
                if name[:2] == name[-2:] == "__":
                    self.assertIn(name[2:-2], DUNDERS, where)
                else:
                    self.assertRegex(name, r"^[A-Za-z][A-Za-z0-9_]*$", where)
                    self.assertNotIn(name, BUILTINS + NAMES, where)

    def test_builtins(self):
        builtins = __builtins__ if isinstance(__builtins__, dict) else vars(__builtins__)
        for where, node in nodes():
            if isinstance(node, ast.Name) and node.id in builtins:
                self.assertIn(node.id, BUILTINS, where)

    def test_lists_rather_than_generators(self):
        for where, node in nodes():
            if isinstance(node, ast.Call) and isinstance(node.func, ast.Name) and node.func.id in LISTS:
                self.assertNotIsInstance(node.args[0], ast.GeneratorExp, where)

    def test_operators_reach_no_generator(self):
        reached = list(reached_by_operators())
        for name in ("__and__", "__add__", "__contains__", "__eq__", "__init__", "need_settings", "is_name", "joined"):
            self.assertIn(name, [function.name for where, function in reached])
        for where, function in reached:
            for node in ast.walk(function):
                self.assertNotIsInstance(node, (ast.Yield, ast.YieldFrom), f"{where} {function.name}")

    def test_operators_and_properties_change_nothing(self):
        reached = list(reached_by_operators())
        for name in ("going", "ended", "all_of", "lived_through"):
            self.assertIn(name, [function.name for where, function in reached])
        for where, function in reached:
            for node in ast.walk(function):
                self.assertNotIsInstance(node, (ast.Delete, ast.Nonlocal), f"{where} {function.name}")
                if isinstance(node, (ast.Attribute, ast.Subscript)) and function.name != "__init__":
                    self.assertIsInstance(node.ctx, ast.Load, f"{where} {function.name}")

    def test_with_statements_and_exits(self):
        for where, node in functions():
            if node.name == "__exit__":
                self.assertEqual([argument.arg for argument in node.args.args], ["self", "kind", "value", "trace"])
                for row in node.body:
                    self.assertRegex(ast.unparse(row), r"^self(\.\w+)+ = self(\.\w+)+$", where)
            if node.name == "__len__":
                self.assertRegex(ast.unparse(node.body[-1]), r"^return len\(.*\)$", where)

    def test_decorators_and_parameters(self):
        for where, node in functions():
            self.assertEqual(node.args.posonlyargs, [], where)
            for decorator in node.decorator_list:
                self.assertRegex(ast.unparse(decorator), r"^(property|staticmethod|classmethod|\w+\.setter)$", where)

    def test_no_name_is_that_of_a_class_or_an_import_of_its_file(self):
        for path, text in sources():
            tree = ast.parse(text)
            outer = [alias.asname or alias.name for node in tree.body if isinstance(node, ast.ImportFrom)
                     for alias in node.names] + [node.name for node in tree.body if isinstance(node, ast.ClassDef)]
            for function in ast.walk(tree):
                if isinstance(function, (ast.FunctionDef, ast.Lambda)):
                    inner = [name for node in ast.walk(function) if node is not function for name in bound_names(node)]
                    self.assertEqual([name for name in inner if name in outer], [], path)

    def test_imports_name_the_file_that_defines_the_name_and_are_used(self):
        for path, text in sources():
            for node in ast.parse(text).body:
                for alias in node.names if isinstance(node, ast.ImportFrom) else []:
                    there = (PACKAGE / (node.module.partition(".")[2] + ".py")).read_text(encoding="utf-8")
                    self.assertRegex(there, rf"(?m)^(def {alias.name}\(|class {alias.name}\b|{alias.name} = )", path)
                    self.assertGreater(len(re.findall(rf"\b{alias.name}\b", text)), 1, (path, alias.name))

    def test_generators_and_their_kin_are_iterated_at_once(self):
        lazy = [node.name for where, node in functions()
                if any(isinstance(part, (ast.Yield, ast.YieldFrom)) for part in ast.walk(node))]
        self.assertEqual(lazy, ["standings"])
        for where, node in nodes():
            value = getattr(node, "value", None) if isinstance(node, (ast.Assign, ast.Return)) else None
            if isinstance(value, ast.Call):
                name = ast.unparse(value.func).rpartition(".")[2]
                self.assertNotIn(name, lazy + ["zip", "enumerate", "reversed", "range", "items", "keys", "values"], where)

    def test_no_name_is_a_method_and_an_attribute(self):
        methods = {node.name for where, owner in nodes() if isinstance(owner, ast.ClassDef)
                   for node in owner.body if isinstance(node, ast.FunctionDef)}
        stored = {node.attr for where, node in nodes()
                  if isinstance(node, ast.Attribute) and isinstance(node.ctx, ast.Store)}
        self.assertEqual(methods & stored, set())

    def test_module_level(self):
        allowed = (ast.ImportFrom, ast.FunctionDef, ast.ClassDef, ast.Assign)
        for path, text in sources():
            names = []
            for at, node in enumerate(ast.parse(text).body):
                docstring = at == 0 and isinstance(node, ast.Expr)
                self.assertTrue(docstring or isinstance(node, allowed), f"{path.name}:{node.lineno}")
                if isinstance(node, ast.ImportFrom):
                    names += [alias.asname or alias.name for alias in node.names]
                elif isinstance(node, ast.Assign):
                    names += [ast.unparse(target) for target in node.targets]
                elif not docstring:
                    names.append(node.name)
            self.assertEqual(sorted(names), sorted(set(names)), path)


class ReadmeTest(unittest.TestCase):

    def test_the_examples_hold(self):
        text = (PACKAGE.parent / "README.md").read_text(encoding="utf-8")
        code = re.findall(r"```python\n(.*?)```", text, re.S)[0]
        names = {}
        checked = 0
        for node in ast.parse(code).body:
            line = code.split("\n")[node.end_lineno - 1]
            told = line.partition("  # ")[2]
            if isinstance(node, ast.Expr):
                found = eval(compile(ast.Expression(node.value), "README.md", "eval"), names)
                if told and not told.startswith('("torn", a run'):
                    self.assertEqual(found, ast.literal_eval(told.partition(":")[0]), line)
                    checked += 1
            else:
                exec(compile(ast.Module([node], []), "README.md", "exec"), names)
        self.assertEqual(checked, 21)


if __name__ == "__main__":
    unittest.main()
