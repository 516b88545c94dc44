"""The language: rules L1 to L28, as far as they can be seen in the files of the package."""

import ast
import builtins
import pathlib
import re
import unittest

FOLDER = pathlib.Path(__file__).resolve().parent.parent / "lengthstell"
LIBRARY = {"math": {"gcd", "lcm", "isqrt", "comb", "perm", "factorial"}}
BUILTINS = set(
    "len range enumerate zip min max sum abs sorted reversed int str bool list tuple dict set isinstance"
    " ord repr any all divmod iter Exception ValueError TypeError KeyError IndexError LookupError"
    " ZeroDivisionError ArithmeticError OverflowError RuntimeError NotImplementedError".split()
)
METHODS = set(
    "append clear copy count endswith extend find get index insert isalnum isalpha isdigit islower isspace"
    " isupper items join keys ljust lower lstrip partition pop remove replace reverse rfind rjust rpartition"
    " rsplit rstrip setdefault split splitlines startswith strip update upper values zfill bit_length".split()
)
GENERATORS = ["closed_lots", "moved_lots", "told_lots"]
DUNDERS = set(
    "__init__ __eq__ __repr__ __str__ __len__ __enter__ __exit__ __iter__ __or__ __contains__".split()
)
BARRED_NAMES = set(
    "register mro elements open input law version_info with_traceback add_note attrgetter breakpoint builtins"
    " compile copyright credits delattr dir eval exec exit gc getattr globals hasattr help id importlib license"
    " locals methodcaller os quit setattr super type vars sys".split()
)
BARRED_WORDS = re.compile(
    r"\b(type|typing|typing_extensions|enum|Enum|IntEnum|StrEnum|Flag|IntFlag|Generic|Protocol|ABC|ABCMeta"
    r"|namedtuple|NamedTuple|TypedDict|TYPE_CHECKING|abstractmethod)\b|dataclass|overload|contextmanager"
)
BARRED_NODES = (
    ast.Lambda, ast.GeneratorExp, ast.AsyncFunctionDef, ast.Await, ast.AsyncFor, ast.AsyncWith, ast.Global,
    ast.Nonlocal, ast.With, ast.YieldFrom, ast.NamedExpr, ast.Div, ast.MatMult, ast.Set,
    ast.AnnAssign, ast.Import, ast.Delete, ast.Match,
)


def files():
    return sorted(FOLDER.rglob("*.py"))


def trees():
    return [(path, ast.parse(path.read_text(encoding="ascii"))) for path in files()]


def module_name(path):
    parts = path.relative_to(FOLDER.parent).with_suffix("").parts
    return ".".join(parts[:-1] if parts[-1] == "__init__" else parts)


def parents(tree):
    found = {}
    for node in ast.walk(tree):
        for child in ast.iter_child_nodes(node):
            found[child] = node
    return found


def functions(tree):
    return [node for node in ast.walk(tree) if isinstance(node, ast.FunctionDef)]


def parameters(function):
    every = function.args
    named = every.posonlyargs + every.args + every.kwonlyargs
    return [arg.arg for arg in named + [one for one in (every.vararg, every.kwarg) if one]]


def local_names(function):
    stored = [
        node.id for node in ast.walk(function)
        if isinstance(node, ast.Name) and isinstance(node.ctx, ast.Store)
    ]
    return set(parameters(function) + stored)


def asks_kind(node):
    """Whether a comparison is of the one form in which L8 lets `type` stand: type(x) is int."""
    left = node.left
    is_call = isinstance(left, ast.Call) and isinstance(left.func, ast.Name) and left.func.id == "type"
    return is_call and len(node.ops) == 1 and len(left.args) == 1 and isinstance(left.args[0], ast.Name) and (
        isinstance(node.ops[0], (ast.Is, ast.IsNot)) and isinstance(node.comparators[0], ast.Name)
        and node.comparators[0].id in ("int", "str", "bool", "list", "tuple", "dict"))


def kind_names(tree):
    """The names `type` of all comparisons of that form."""
    return {node.left.func for node in ast.walk(tree) if isinstance(node, ast.Compare) and asks_kind(node)}


class LanguageTest(unittest.TestCase):

    def test_files(self):
        self.assertLessEqual(len(files()), 100)
        for path in FOLDER.rglob("*"):
            if "__pycache__" in path.parts:
                continue
            if path.is_dir():
                self.assertTrue((path / "__init__.py").is_file(), path)
            else:
                self.assertRegex(path.name, r"^[a-z_]+\.py$")
            self.assertNotIn(path.stem, BUILTINS | BARRED_NAMES | set(LIBRARY))

    def test_lines(self):
        for path in files():
            text = path.read_bytes()
            self.assertTrue(all(byte == 10 or 32 <= byte <= 126 for byte in text), path)
            lines = text.decode("ascii").splitlines()
            self.assertLessEqual(len(lines), 399, path)
            self.assertLessEqual(max([len(line) for line in lines], default=0), 120, path)

    def test_functions_are_short(self):
        for path, tree in trees():
            for function in functions(tree):
                lines = function.end_lineno - function.lineno + 1
                self.assertLessEqual(lines, 40, f"{path} {function.name}")

    def test_module_level(self):
        allowed = (ast.ImportFrom, ast.FunctionDef, ast.ClassDef, ast.Assign, ast.Expr)
        for path, tree in trees():
            for at, node in enumerate(tree.body):
                self.assertIsInstance(node, allowed, path)
                if isinstance(node, ast.Expr):
                    self.assertEqual(at, 0)
                    self.assertIsInstance(node.value.value, str)
                if isinstance(node, ast.Assign):
                    self.assertEqual(len(node.targets), 1)
                    ast.literal_eval(node.value)

    def test_imports(self):
        defined = {
            module_name(path): {getattr(node, "name", None) or getattr(node.targets[0], "id", None)
                                for node in tree.body if hasattr(node, "name") or hasattr(node, "targets")}
            for path, tree in trees()
        }
        for path, tree in trees():
            for node in ast.walk(tree):
                if isinstance(node, ast.ImportFrom):
                    self.assertEqual(node.level, 0)
                    self.assertIn(node, tree.body)
                    wanted = {alias.name for alias in node.names}
                    self.assertTrue(all(alias.asname is None for alias in node.names))
                    have = LIBRARY.get(node.module) or defined[node.module]
                    self.assertLessEqual(wanted, have, f"{path}: {node.module}")

    def test_imports_go_round_nowhere(self):
        graph = {
            module_name(path): [node.module for node in tree.body if isinstance(node, ast.ImportFrom)]
            for path, tree in trees()
        }
        done = set()
        while len(done) < len(graph):
            ready = {name for name in graph if name not in done
                     and all(other in done or other in LIBRARY for other in graph[name])}
            self.assertTrue(ready, f"a circle among {sorted(set(graph) - done)}")
            done |= ready

    def test_no_imported_name_is_unused(self):
        for path, tree in trees():
            used = {node.id for node in ast.walk(tree) if isinstance(node, ast.Name)}
            for node in tree.body:
                if isinstance(node, ast.ImportFrom):
                    for alias in node.names:
                        self.assertIn(alias.name, used, path)

    def test_barred_statements_and_signs(self):
        for path, tree in trees():
            for node in ast.walk(tree):
                self.assertNotIsInstance(node, BARRED_NODES, f"{path}:{getattr(node, 'lineno', 0)}")
                if isinstance(node, ast.Constant):
                    self.assertNotIsInstance(node.value, (float, complex, bytes))
                if isinstance(node, ast.BinOp) and isinstance(node.op, ast.Pow):
                    self.assertIsInstance(node.right, ast.Constant)
                    self.assertTrue(0 <= node.right.value <= 64)
                if isinstance(node, ast.Compare):
                    for operator, right in zip(node.ops, node.comparators):
                        if isinstance(operator, (ast.Is, ast.IsNot)) and not asks_kind(node):
                            self.assertIsInstance(right, ast.Constant)

    def test_generators(self):
        made = {}
        for path, tree in trees():
            above = parents(tree)
            for function in functions(tree):
                inner = [node for node in ast.walk(function) if isinstance(node, ast.Yield)]
                if inner:
                    made[function.name] = path
                    self.assertEqual(function.decorator_list, [])
                    self.assertTrue(all(isinstance(above[node], ast.Expr) for node in inner), path)
        self.assertEqual(sorted(made), GENERATORS)
        names = [function.name for _, tree in trees() for function in functions(tree)]
        for name in made:
            self.assertEqual(names.count(name), 1)
            self.assertNotIn(name, METHODS)
        for path, tree in trees():
            for node in ast.walk(tree):
                if isinstance(node, ast.Name):
                    self.assertNotIn(node.id, made, path)

    def test_only_own_errors_are_caught(self):
        own = {node.name for node in ast.parse((FOLDER / "errors.py").read_text()).body
               if isinstance(node, ast.ClassDef)}
        for path, tree in trees():
            for node in ast.walk(tree):
                if isinstance(node, ast.Try):
                    self.assertFalse(node.finalbody)
                    self.assertTrue(all(isinstance(part, ast.Return) for part in node.body), path)
                    for handler in node.handlers:
                        named = handler.type.elts if isinstance(handler.type, ast.Tuple) else [handler.type]
                        self.assertLessEqual({name.id for name in named}, own, path)

    def test_starred_calls(self):
        for path, tree in trees():
            for node in ast.walk(tree):
                if isinstance(node, ast.Call):
                    for arg in node.args:
                        if isinstance(arg, ast.Starred):
                            inner = arg.value.value if isinstance(arg.value, ast.Attribute) else arg.value
                            self.assertIsInstance(inner, ast.Name, f"{path}:{node.lineno}")
                    self.assertTrue(all(keyword.arg is not None for keyword in node.keywords), path)

    def test_double_underscore_methods(self):
        for path, tree in trees():
            for owner in [node for node in ast.walk(tree) if isinstance(node, ast.ClassDef)]:
                for method in [part for part in owner.body if isinstance(part, ast.FunctionDef)]:
                    where = f"{path} {owner.name}.{method.name}"
                    last = method.body[-1]
                    if method.name in ("__len__", "__iter__"):
                        self.assertEqual(len(method.body), 1, where)
                        self.assertEqual(last.value.func.id, method.name.strip("_"), where)
                        kept = last.value.args[0]
                        self.assertTrue(kept.value.id == "self" and kept.attr.startswith("_"), where)
                    if method.name == "__exit__":
                        self.assertTrue(all(isinstance(part, ast.Assign) for part in method.body), where)
                        self.assertTrue(all(isinstance(part.value, ast.Constant) for part in method.body), where)
                    if method.name in ("__str__", "__eq__", "__contains__"):
                        self.assertIsInstance(last, ast.Return, where)
                    changing = (ast.Assign, ast.AugAssign)
                    if method.name in ("__str__", "__eq__", "__contains__", "__len__", "__iter__") or method.decorator_list:
                        for part in ast.walk(method):
                            if isinstance(part, changing):
                                target = part.targets[0] if isinstance(part, ast.Assign) else part.target
                                self.assertIsInstance(target, ast.Name, where)

    def test_properties_and_methods_have_unlike_names(self):
        methods, properties, kept = set(), set(), set()
        for _, tree in trees():
            for owner in [node for node in ast.walk(tree) if isinstance(node, ast.ClassDef)]:
                for part in owner.body:
                    if isinstance(part, ast.FunctionDef):
                        names = [decorator.id for decorator in part.decorator_list]
                        (properties if names == ["property"] else methods).add(part.name)
            kept |= {node.attr for node in ast.walk(tree)
                     if isinstance(node, ast.Attribute) and isinstance(node.ctx, ast.Store)}
        self.assertFalse(properties & methods)
        self.assertFalse(properties & METHODS)
        self.assertFalse(kept & (methods | properties))

    def test_decorators_and_annotations(self):
        for path, tree in trees():
            for function in functions(tree):
                self.assertIsNone(function.returns)
                names = [node.id for node in function.decorator_list]
                self.assertIn(names, ([], ["property"], ["classmethod"], ["staticmethod"]), path)
            for node in ast.walk(tree):
                if isinstance(node, ast.ClassDef):
                    self.assertEqual(node.decorator_list, [])
                    for part in node.body:
                        self.assertIsInstance(part, (ast.FunctionDef, ast.Expr))

    def test_names(self):
        for path, tree in trees():
            asked = kind_names(tree)
            for node in ast.walk(tree):
                for name in self.names_of(node) if node not in asked else []:
                    self.assertRegex(name, r"^_?[A-Za-z][A-Za-z0-9_]*$|^_$|^__[a-z]+__$", path)
                    if name.startswith("__"):
                        self.assertIn(name, DUNDERS)
                    barred = r"^_(wall|pe_|dcw_|enum_|cm_|twin_re_|lay_|law_|stub_|sre|WallAttr)"
                    self.assertNotRegex(name, barred)
                    self.assertNotRegex(name, r"^_(cold|tuplegetter|outside|record|written_out|member_names)[\d_]*$")
                    self.assertNotIn(name, BARRED_NAMES)

    def names_of(self, node):
        if isinstance(node, (ast.FunctionDef, ast.ClassDef)):
            return [node.name]
        if isinstance(node, ast.Name):
            return [node.id]
        if isinstance(node, ast.Attribute):
            return [node.attr]
        if isinstance(node, ast.arg):
            return [node.arg]
        return []

    def test_names_are_bound_once(self):
        for path, tree in trees():
            bound = []
            classes = [node.name for node in tree.body if isinstance(node, ast.ClassDef)]
            imported = []
            for node in tree.body:
                if isinstance(node, ast.ImportFrom):
                    imported += [alias.name for alias in node.names]
                elif isinstance(node, ast.Assign):
                    bound += [node.targets[0].id]
                elif not isinstance(node, ast.Expr):
                    bound += [node.name]
            bound += imported
            self.assertEqual(len(bound), len(set(bound)), path)
            self.assertFalse(set(bound) & set(dir(builtins)), path)
            for function in functions(tree):
                local = local_names(function)
                where = f"{path} {function.name}"
                self.assertFalse(local & set(classes + imported), where)
                self.assertFalse(local & set(dir(builtins)), where)
                self.assertFalse(local & set(bound), where)

    def test_called_names(self):
        own = {node.name for _, tree in trees() for node in ast.walk(tree)
               if isinstance(node, (ast.FunctionDef, ast.ClassDef))}
        library = set().union(*LIBRARY.values())
        for path, tree in trees():
            asked = kind_names(tree)
            for node in ast.walk(tree):
                if isinstance(node, ast.Call) and node.func in asked or node in asked:
                    continue
                if isinstance(node, ast.Call) and isinstance(node.func, ast.Name):
                    self.assertIn(node.func.id, own | BUILTINS | library | {"cls"}, path)
                if isinstance(node, ast.Call) and isinstance(node.func, ast.Attribute):
                    self.assertIn(node.func.attr, own | METHODS, path)
                if isinstance(node, ast.Name) and node.id in dir(builtins):
                    self.assertIn(node.id, BUILTINS | {"property", "classmethod", "staticmethod"}, path)

    def test_sets_stand_only_where_they_may(self):
        for path, tree in trees():
            above = parents(tree)
            for node in ast.walk(tree):
                is_call = isinstance(node, ast.Call) and isinstance(node.func, ast.Name) and node.func.id == "set"
                if is_call or isinstance(node, ast.SetComp):
                    outer = above[node]
                    self.assertIsInstance(outer, ast.Call, f"{path}:{node.lineno}")
                    self.assertIn(outer.func.id, ("len", "sorted"))

    def test_iterators_are_iterated_at_once(self):
        makers = ("zip", "enumerate", "reversed", "range")
        for path, tree in trees():
            above = parents(tree)
            for node in ast.walk(tree):
                if isinstance(node, ast.Call) and isinstance(node.func, ast.Name) and node.func.id in makers:
                    outer = above[node]
                    at_once = isinstance(outer, (ast.For, ast.comprehension)) or (
                        isinstance(outer, ast.Call) and outer.func.id in ("list", "tuple", "dict"))
                    kept = isinstance(outer, ast.Assign) and node.func.id == "range"
                    self.assertTrue(at_once or kept, f"{path}:{node.lineno}")

    def test_strings(self):
        for path, tree in trees():
            docstrings = {
                id(node.body[0].value) for node in ast.walk(tree)
                if isinstance(node, (ast.Module, ast.ClassDef, ast.FunctionDef)) and node.body
                and isinstance(node.body[0], ast.Expr)
            }
            for node in ast.walk(tree):
                if isinstance(node, ast.Constant) and isinstance(node.value, str):
                    if id(node) not in docstrings:
                        self.assertNotIn("%", node.value, path)
                        self.assertIsNone(BARRED_WORDS.search(node.value), path)

    def test_errors_are_raised_by_name(self):
        for path, tree in trees():
            for node in ast.walk(tree):
                if isinstance(node, ast.Raise):
                    self.assertIsInstance(node.exc, ast.Call, path)
                    self.assertIsInstance(node.exc.func, ast.Name)
                    self.assertIsNone(node.cause)


if __name__ == "__main__":
    unittest.main()
