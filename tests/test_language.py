"""LANGUAGE.md, as far as its rules can be read off the files of the package.

Some of the tests are narrower than the rules: what the package does not use so far is refused.
"""

import ast
import pathlib
import re
import unittest

PACKAGE = pathlib.Path(__file__).resolve().parent.parent / "endchecks"
BUILTINS = set(
    "len range enumerate zip min max sum abs sorted reversed int str bool bytes list tuple dict set frozenset isinstance"
    " ord repr any all divmod iter next map super Exception ValueError TypeError KeyError IndexError LookupError"
    " ZeroDivisionError ArithmeticError OverflowError RuntimeError NotImplementedError AttributeError StopIteration"
    " NotImplemented property".split())
METHODS = set(
    "append clear copy count endswith extend find get index insert isalnum isalpha isdigit islower isspace isupper items"
    " join keys ljust lower lstrip partition pop remove replace reverse rfind rjust rpartition rsplit rstrip setdefault"
    " split splitlines startswith strip update upper values zfill bit_length".split())
CHANGING = set("append clear extend insert pop remove reverse setdefault update".split())
DUNDERS = set(
    "__init__ __eq__ __len__ __iter__ __contains__ __getitem__ __setitem__ __enter__ __exit__ __call__".split())
BARRED_WORDS = set(
    "type typing typing_extensions enum Enum IntEnum StrEnum Flag IntFlag Generic Protocol ABC ABCMeta namedtuple"
    " NamedTuple TypedDict TYPE_CHECKING abstractmethod".split())
BARRED_NAMES = set("register mro elements open input law version_info with_traceback add_note".split())
BARRED_BINDINGS = BUILTINS | set(dir(__builtins__) if not isinstance(__builtins__, dict) else __builtins__) | set(
    "attrgetter breakpoint builtins compile copyright credits delattr dir eval exec exit gc getattr globals hasattr help"
    " id importlib license locals methodcaller os quit setattr super type vars sys".split())
STATEMENTS = (
    ast.Assign, ast.AugAssign, ast.If, ast.While, ast.For, ast.Return, ast.Break, ast.Continue, ast.Pass, ast.Raise,
    ast.Assert, ast.Delete, ast.Try, ast.Expr, ast.FunctionDef, ast.ClassDef, ast.ImportFrom)
NOT_USED = (
    ast.GeneratorExp, ast.Lambda, ast.Global, ast.AsyncFunctionDef, ast.YieldFrom, ast.Await, ast.JoinedStr,
    ast.NamedExpr, ast.Div, ast.Import, ast.Nonlocal, ast.With, ast.AnnAssign)
PLAIN = (
    ast.Constant, ast.Tuple, ast.List, ast.Dict, ast.Load, ast.UnaryOp, ast.USub, ast.BinOp, ast.operator, ast.Name)


def files():
    return sorted(PACKAGE.glob("*.py"))


def trees():
    return [(path, ast.parse(path.read_text())) for path in files()]


def nodes(*kinds):
    return [(path, node) for path, tree in trees() for node in ast.walk(tree) if isinstance(node, kinds)]


def functions():
    return nodes(ast.FunctionDef)


def is_call_of(node, *names):
    return isinstance(node, ast.Call) and isinstance(node.func, ast.Name) and node.func.id in names


class FilesTest(unittest.TestCase):
    def test_the_folder(self):
        for path in PACKAGE.iterdir():
            if path.name != "__pycache__":
                self.assertRegex(path.name, r"\A(__init__|[a-z]+)\.py\Z")

    def test_sizes_and_characters(self):
        for path in files():
            text = path.read_text()
            self.assertRegex(text, r"\A[ -~\n]*\n\Z", path.name)
            lines = text.split("\n")
            self.assertLessEqual(len(lines), 399, path.name)
            self.assertLessEqual(max(len(line) for line in lines), 120, path.name)
            self.assertEqual([line for line in lines if line != line.rstrip()], [], path.name)

    def test_functions_are_short(self):
        for path, node in functions():
            self.assertLessEqual(node.end_lineno - node.lineno + 1, 40, (path.name, node.name))

    def test_module_level(self):
        for path, tree in trees():
            for at, node in enumerate(tree.body):
                if isinstance(node, ast.Expr):
                    self.assertTrue(at == 0 and isinstance(node.value.value, str), path.name)
                elif isinstance(node, ast.Assign):
                    self.assertEqual(len(node.targets), 1)
                    for part in ast.walk(node.value):
                        self.assertIsInstance(part, PLAIN, (path.name, node.lineno))
                else:
                    self.assertIsInstance(node, (ast.ImportFrom, ast.FunctionDef, ast.ClassDef), path.name)

    def test_imports(self):
        for path, tree in trees():
            for _, node in [(path, node) for node in ast.walk(tree) if isinstance(node, ast.ImportFrom)]:
                self.assertIn(node, tree.body)
                self.assertRegex(node.module, r"\Aendchecks\.[a-z]+\Z", path.name)
                self.assertEqual(node.level, 0)
                target = ast.parse((PACKAGE / (node.module.split(".")[1] + ".py")).read_text())
                defined = {part.name for part in target.body if isinstance(part, (ast.FunctionDef, ast.ClassDef))}
                defined |= {part.targets[0].id for part in target.body if isinstance(part, ast.Assign)}
                for alias in node.names:
                    self.assertIsNone(alias.asname)
                    self.assertIn(alias.name, defined, path.name)

    def test_no_two_files_import_from_each_other(self):
        beside = {path.stem: {node.module.split(".")[1] for node in ast.walk(tree) if isinstance(node, ast.ImportFrom)}
                  for path, tree in trees()}
        while beside:
            free = [name for name in beside if not beside[name] & set(beside)]
            self.assertTrue(free, beside)
            for name in free:
                del beside[name]

    def test_imports_are_used(self):
        for path, tree in trees():
            used = {node.id for node in ast.walk(tree) if isinstance(node, ast.Name)}
            for node in tree.body:
                if isinstance(node, ast.ImportFrom):
                    self.assertEqual([a.name for a in node.names if a.name not in used], [], path.name)


class StatementsTest(unittest.TestCase):
    def test_statements(self):
        for path, node in nodes(ast.stmt):
            self.assertIsInstance(node, STATEMENTS, (path.name, node.lineno))

    def test_what_is_not_used(self):
        for path, node in nodes(*NOT_USED):
            self.fail((path.name, getattr(node, "lineno", node)))

    def test_decorators_and_defaults(self):
        for path, node in functions():
            for decorator in node.decorator_list:
                self.assertEqual(ast.unparse(decorator), "property", path.name)
            for default in [*node.args.defaults, *[thing for thing in node.args.kw_defaults if thing]]:
                self.assertIsInstance(default, (ast.Constant, ast.Tuple, ast.Name), path.name)

    def test_builtins(self):
        for path, tree in trees():
            own = {node.id for node in ast.walk(tree) if isinstance(node, ast.Name) and not isinstance(node.ctx, ast.Load)}
            own |= {node.arg for node in ast.walk(tree) if isinstance(node, ast.arg)}
            own |= {node.name for node in tree.body if isinstance(node, (ast.FunctionDef, ast.ClassDef))}
            own |= {node.name for node in ast.walk(tree) if isinstance(node, ast.ExceptHandler) and node.name}
            own |= {alias.name for node in tree.body if isinstance(node, ast.ImportFrom) for alias in node.names}
            for node in ast.walk(tree):
                if isinstance(node, ast.Name) and node.id not in own:
                    self.assertIn(node.id, BUILTINS, (path.name, node.lineno))

    def test_methods_of_builtin_values(self):
        own = {node.name for path, tree in trees() for part in tree.body if isinstance(part, ast.ClassDef)
               for node in part.body if isinstance(node, ast.FunctionDef)}
        for path, node in nodes(ast.Call):
            if isinstance(node.func, ast.Attribute):
                self.assertIn(node.func.attr, METHODS | own | DUNDERS, (path.name, node.lineno))
                if node.func.attr in METHODS:
                    self.assertEqual(node.keywords, [], (path.name, node.lineno))

    def test_is_stands_beside_none_and_truths(self):
        for path, node in nodes(ast.Compare):
            for op, right in zip(node.ops, node.comparators):
                if isinstance(op, (ast.Is, ast.IsNot)):
                    self.assertTrue(isinstance(right, ast.Constant) and right.value in (None, True, False), path.name)

    def test_sets_stand_in_sorted_len_and_in(self):
        for path, tree in trees():
            allowed = set()
            for node in ast.walk(tree):
                if is_call_of(node, "sorted", "len") and not node.keywords:
                    allowed.add(node.args[0])
                if isinstance(node, ast.Compare) and isinstance(node.ops[0], (ast.In, ast.NotIn)):
                    allowed.add(node.comparators[0])
            for node in ast.walk(tree):
                if isinstance(node, (ast.Set, ast.SetComp)) or is_call_of(node, "set", "frozenset"):
                    self.assertIn(node, allowed, (path.name, node.lineno))

    def test_views_are_iterated_at_once(self):
        for path, tree in trees():
            heads = [node.iter for node in ast.walk(tree) if isinstance(node, (ast.For, ast.comprehension))]
            heads += [node.args[0] for node in ast.walk(tree) if is_call_of(node, "list", "tuple", "dict", "sorted")
                      and node.args]
            for node in ast.walk(tree):
                is_view = isinstance(node, ast.Call) and isinstance(node.func, ast.Attribute) and node.func.attr in (
                    "items", "keys", "values")
                if is_view or is_call_of(node, "zip", "enumerate", "range", "reversed", "map"):
                    self.assertIn(node, heads, (path.name, node.lineno))

    def test_what_reversed_takes(self):
        """Where a class has [ ], it stands over calls that are plainly lists, or over literals."""
        for path, node in nodes(ast.Call):
            if is_call_of(node, "reversed"):
                over, = node.args
                is_literal = isinstance(over, (ast.List, ast.Tuple, ast.Constant))
                self.assertTrue(is_literal or is_call_of(over, "list", "tuple", "sorted", "range"), (path.name, node.lineno))

    def test_errors_are_raised_on_the_spot(self):
        for path, node in nodes(ast.Raise):
            self.assertTrue(isinstance(node.exc, ast.Call) and isinstance(node.exc.func, ast.Name), path.name)
        for path, node in nodes(ast.ExceptHandler):
            self.assertNotIn(ast.unparse(node.type), ["Exception", "TypeError", "AttributeError", "RuntimeError"])

    def test_generators(self):
        generators = {node.name for path, node in functions()
                      if any(isinstance(part, ast.Yield) for part in ast.walk(node))}
        for path, node in functions():
            if node.name in generators:
                self.assertFalse(any(isinstance(part, (ast.Try, ast.With)) for part in ast.walk(node)), path.name)
                for part in ast.walk(node):
                    self.assertFalse(isinstance(part, ast.Return) and part.value, path.name)
        names = [node.name for path, node in functions()]
        self.assertEqual([name for name in generators if names.count(name) > 1], [])
        statements = [node.value for path, node in nodes(ast.Expr)]
        yields = [part for part in statements if isinstance(part, ast.Yield)]
        self.assertEqual(len(yields), len(nodes(ast.Yield)))
        for path, node in nodes(ast.Name):
            self.assertNotIn(node.id, generators, path.name)

    def test_finally_is_simple(self):
        for path, node in nodes(ast.Try):
            for part in [inner for statement in node.finalbody for inner in ast.walk(statement)]:
                self.assertNotIsInstance(part, (ast.Call, ast.Subscript, ast.Return, ast.Raise, ast.For, ast.Break))

    def test_strings(self):
        for path, node in nodes(ast.Constant):
            if isinstance(node.value, str):
                self.assertNotRegex(node.value, r"%|\._\Z|\.__\Z|__", (path.name, node.lineno))


    def test_operators_and_properties_change_nothing(self):
        for path, node in functions():
            is_operator = node.name[:2] == "__" and node.name not in ("__init__", "__setitem__")
            if is_operator or node.decorator_list:
                for part in ast.walk(node):
                    if isinstance(part, (ast.Attribute, ast.Subscript)):
                        self.assertIsInstance(part.ctx, ast.Load, (path.name, node.lineno))
                    if isinstance(part, ast.Call) and isinstance(part.func, ast.Attribute):
                        self.assertNotIn(part.func.attr, CHANGING, (path.name, node.lineno))


class NamesTest(unittest.TestCase):
    def bound(self, tree):
        for node in ast.walk(tree):
            if isinstance(node, ast.Name) and not isinstance(node.ctx, ast.Load):
                yield node.id
            elif isinstance(node, ast.arg):
                yield node.arg
            elif isinstance(node, ast.ExceptHandler) and node.name:
                yield node.name

    def test_no_name_of_a_builtin(self):
        for path, tree in trees():
            top = [node.name for node in tree.body if isinstance(node, (ast.FunctionDef, ast.ClassDef))]
            for name in [*self.bound(tree), *top]:
                self.assertNotIn(name, BARRED_BINDINGS, path.name)

    def test_no_name_of_a_class_a_function_or_an_import(self):
        for path, tree in trees():
            top = {node.name for node in tree.body if isinstance(node, (ast.FunctionDef, ast.ClassDef))}
            top |= {alias.name for node in tree.body if isinstance(node, ast.ImportFrom) for alias in node.names}
            self.assertEqual(sorted(top & set(self.bound(tree))), [], path.name)

    def test_barred_names(self):
        for path, node in nodes(ast.Name, ast.Attribute, ast.arg, ast.FunctionDef, ast.ClassDef, ast.keyword):
            name = getattr(node, "id", None) or getattr(node, "attr", None) or getattr(node, "arg", None) or getattr(
                node, "name", "")
            self.assertNotIn(name, BARRED_NAMES, path.name)
            self.assertNotRegex(name, r"\A(f_|tb_|co_|_wall|_pe_|_dcw_|_enum_|_cm_|_lay_|_law_|_stub_|_sre)", path.name)
            if name.startswith("__"):
                self.assertIn(name, DUNDERS, path.name)

    def test_barred_words(self):
        for path in files():
            text = path.read_text()
            self.assertNotRegex(text, r"dataclass|overload|contextmanager|_wall|_WallAttr|\(type\)|Meta|metaclass=")
            self.assertEqual(BARRED_WORDS & set(re.findall(r"\w+", text)), set(), path.name)

    def test_methods_and_attributes(self):
        methods, attributes, properties = set(), set(), set()
        for path, node in nodes(ast.ClassDef):
            for part in node.body:
                if isinstance(part, ast.FunctionDef):
                    (properties if part.decorator_list else methods).add(part.name)
            attributes |= {part.attr for part in ast.walk(node) if isinstance(part, ast.Attribute)
                           and isinstance(part.ctx, ast.Store)}
        self.assertEqual(methods & properties, set())
        self.assertEqual(attributes & properties, set())
        self.assertEqual(methods & attributes, set())
        builtin = {name for kind in (str, int, list, dict, set, bytes) for name in dir(kind) if name[0] != "_"}
        self.assertEqual((methods | properties) & builtin, set())
        for path, node in nodes(ast.Attribute):
            self.assertIn(node.attr, methods | properties | attributes | METHODS | DUNDERS, (path.name, node.lineno))


if __name__ == "__main__":
    unittest.main()
