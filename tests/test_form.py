"""The form of the package: the rules of LANGUAGE.md that a program can check, often in a narrower way."""

import ast
import builtins
import pathlib
import re

from tests.checks import Case

FOLDER = pathlib.Path(__file__).resolve().parent.parent / "watchbeats"
USED_BUILTINS = set("""len range enumerate zip min max sum abs sorted reversed int str bool list tuple dict isinstance
    ord repr any all divmod iter map ValueError TypeError KeyError NotImplemented""".split())
LIBRARY = {"math": {"gcd", "lcm", "isqrt", "comb", "perm", "factorial"}}
METHODS_OF_VALUES = set("""append clear copy count endswith extend find get index insert isalnum isalpha isdigit islower
    isspace isupper items join keys ljust lower lstrip partition pop remove replace reverse rfind rjust rpartition
    rsplit rstrip setdefault split splitlines startswith strip update upper values zfill bit_length
    removeprefix removesuffix""".split())
OPERATORS = set("""lt le gt ge ne add sub mul floordiv mod pow and or xor lshift rshift radd rsub rmul iadd neg pos
    invert abs bool contains getitem setitem init eq repr str len enter exit call iter""".split())
BARRED_WORDS = re.compile(r"\b(type|typing|enum|Enum|Flag|Generic|Protocol|ABC|namedtuple|NamedTuple|overload|"
                          r"dataclass|register|mro|elements|open|input|law|exec|eval|globals|locals|vars)\b")
BARRED_NODES = (ast.GeneratorExp, ast.Set, ast.SetComp, ast.AugAssign, ast.AsyncFunctionDef, ast.Global, ast.Div,
                ast.NamedExpr, ast.Await, ast.AnnAssign, ast.Delete, ast.Match)
LOOPS = (ast.ListComp, ast.DictComp)


def files():
    """The files of the package with their texts and trees."""
    for path in sorted(FOLDER.glob("*.py")):
        text = path.read_text(encoding="utf-8")
        yield path, text, ast.parse(text)


def nodes(tree, *kinds):
    return [node for node in ast.walk(tree) if isinstance(node, kinds)]


def names_bound(tree):
    """All names that functions bind: parameters and local variables."""
    told = {node.id for node in nodes(tree, ast.Name) if isinstance(node.ctx, ast.Store)}
    return told | {node.arg for node in nodes(tree, ast.arg)}


def decorators(function):
    return {decorator.id for decorator in function.decorator_list if isinstance(decorator, ast.Name)}


def is_generator(function):
    return bool(nodes(function, ast.Yield, ast.YieldFrom))


def called(node):
    """The last name of what a call calls."""
    return node.func.attr if isinstance(node.func, ast.Attribute) else getattr(node.func, "id", "")


class Package:
    """What the whole package defines."""

    def __init__(self):
        self.trees = [tree for _, _, tree in files()]
        self.classes = [node for tree in self.trees for node in nodes(tree, ast.ClassDef)]
        methods = [(node, child) for node in self.classes for child in node.body
                   if isinstance(child, ast.FunctionDef)]
        self.methods = {child.name for _, child in methods}
        self.properties = {child.name for _, child in methods if "property" in decorators(child)}
        self.values = {target.id for node in self.classes for child in node.body
                       if isinstance(child, ast.Assign) for target in child.targets}
        self.attributes = {node.attr for tree in self.trees for node in nodes(tree, ast.Attribute)
                           if isinstance(node.ctx, ast.Store)}
        functions = [node for tree in self.trees for node in nodes(tree, ast.FunctionDef)]
        self.generators = {node.name for node in functions if is_generator(node)}
        self.functions = [node.name for node in functions]


class FormTest(Case):

    def test_folder(self):
        for path in FOLDER.iterdir():
            if path.name != "__pycache__":
                self.assertRegex(path.name, r"^(__init__|[a-z][a-z0-9_]*)\.py$")
        self.assertLessEqual(len(list(files())), 100)

    def test_sizes_and_characters(self):
        for _, text, tree in files():
            lines = text.split("\n")
            self.assertLessEqual(len(lines) - 1, 399)
            self.assertLessEqual(max(len(line) for line in lines), 120)
            self.assertRegex(text, r"\A[ -~\n]*\Z")
            for node in nodes(tree, ast.FunctionDef):
                self.assertLessEqual(node.end_lineno - node.lineno + 1, 40, node.name)

    def test_module_level(self):
        for _, _, tree in files():
            for at, node in enumerate(tree.body):
                if isinstance(node, ast.Expr):
                    self.assertEqual((at, isinstance(node.value, ast.Constant)), (0, True))
                else:
                    self.assertIsInstance(node, (ast.ImportFrom, ast.FunctionDef, ast.ClassDef, ast.Assign))

    def test_imports(self):
        wanted = {}
        for path, _, tree in files():
            wanted[path.stem] = []
            self.assertEqual(nodes(tree, ast.Import), [])
            for node in nodes(tree, ast.ImportFrom):
                names = {alias.name for alias in node.names}
                self.assertEqual([alias.asname for alias in node.names], [None] * len(names))
                self.assertLessEqual(names, {used.id for used in nodes(tree, ast.Name)})
                if node.module in LIBRARY:
                    self.assertLessEqual(names, LIBRARY[node.module])
                else:
                    folder, file = node.module.split(".")
                    self.assertEqual((folder, node.level), ("watchbeats", 0))
                    wanted[path.stem].append(file)
                    source = ast.parse((FOLDER / f"{file}.py").read_text())
                    there = {getattr(child, "name", None) for child in source.body}
                    there |= {child.targets[0].id for child in source.body if isinstance(child, ast.Assign)}
                    self.assertLessEqual(names, there)
        while wanted:
            free = [file for file in wanted if not set(wanted[file]) & set(wanted)]
            self.assertTrue(free, f"a circle of imports: {wanted}")
            for file in free:
                del wanted[file]

    def test_nodes(self):
        for _, _, tree in files():
            for node in ast.walk(tree):
                self.assertNotIsInstance(node, BARRED_NODES, getattr(node, "lineno", ""))
            for node in nodes(tree, ast.Constant):
                self.assertIsInstance(node.value, (int, str, bool, type(None)))
            for node in nodes(tree, ast.BinOp):
                if isinstance(node.op, ast.Pow):
                    self.assertIsInstance(node.left, ast.Constant)
                    self.assertIn(getattr(node.right, "value", -1), range(65))
            for node in nodes(tree, ast.Compare):
                if isinstance(node.ops[0], (ast.Is, ast.IsNot)):
                    self.assertIn(getattr(node.comparators[0], "value", 0), (None, True, False))

    def test_names(self):
        allowed = {f"__{name}__" for name in OPERATORS}
        for _, text, tree in files():
            loaded = {node.id for node in nodes(tree, ast.Name)}
            self.assertLessEqual({name for name in loaded if name in vars(builtins)},
                                 USED_BUILTINS | {"property", "classmethod", "staticmethod", "super"})
            functions = nodes(tree, ast.FunctionDef)
            defined = {node.name for node in functions + nodes(tree, ast.ClassDef)}
            for name in names_bound(tree) | defined:
                self.assertNotIn(name, vars(builtins))
                self.assertTrue(name in allowed or not name.startswith("__"), name)
                self.assertRegex(name, r"^_?[A-Za-z]\w*$|^_$|^__[a-z]+__$")
            outer = {alias.name for node in nodes(tree, ast.ImportFrom) for alias in node.names}
            outer |= {node.name for node in tree.body if isinstance(node, ast.ClassDef)}
            self.assertEqual(names_bound(tree) & outer, set())
            self.assertTrue(all(not node.name.startswith("_") for node in nodes(tree, ast.ClassDef)))
            code = re.sub(r'""".*?"""|#.*', "", text, flags=re.S)
            self.assertNotRegex(code, BARRED_WORDS)

    def test_strings(self):
        for _, _, tree in files():
            for node in nodes(tree, ast.FunctionDef, ast.ClassDef, ast.Module):
                if node.body and isinstance(node.body[0], ast.Expr) and isinstance(node.body[0].value, ast.Constant):
                    node.body[0].value = ast.Constant(0)
            for node in nodes(tree, ast.Constant):
                self.assertNotIn("%", str(node.value))

    def test_stars(self):
        for _, _, tree in files():
            for node in nodes(tree, ast.Starred):
                self.assertIsInstance(node.value, ast.Name)
            calls = [node for node in nodes(tree, ast.Call) if any(isinstance(arg, ast.Starred) for arg in node.args)]
            self.assertEqual(len(nodes(tree, ast.Starred)), len(calls))
            for node in calls:
                self.assertEqual([isinstance(arg, ast.Starred) for arg in node.args].index(True), len(node.args) - 1)

    def test_sorted_min_and_max_take_numbers(self):
        for _, _, tree in files():
            for node in nodes(tree, ast.Call):
                if called(node) in ("sorted", "min", "max"):
                    plain = [arg for arg in node.args if isinstance(arg, ast.Constant)
                             or isinstance(arg, ast.Call) and called(arg) == "int"]
                    listed = [arg for arg in node.args if isinstance(arg, ast.ListComp)
                              and isinstance(arg.elt, ast.Call) and called(arg.elt) in ("int", "len", "str")]
                    self.assertTrue(plain or listed, ast.unparse(node))

    def test_attributes(self):
        package = Package()
        known = package.attributes | package.methods | package.values | METHODS_OF_VALUES
        for tree in package.trees:
            for node in nodes(tree, ast.Attribute):
                self.assertIn(node.attr, known)
        self.assertEqual(package.attributes & package.methods, set())
        self.assertEqual(package.values & (package.attributes | package.methods), set())
        plain = package.methods - package.properties
        self.assertEqual(plain & METHODS_OF_VALUES, set())

    def test_generators(self):
        package = Package()
        for name in package.generators:
            self.assertEqual(package.functions.count(name), 1, name)
        for tree in package.trees:
            at_once = [node.iter for node in nodes(tree, ast.For, ast.comprehension)]
            at_once += [node.args[0] for node in nodes(tree, ast.Call) if called(node) in ("list", "tuple")]
            at_once += [node.value for node in nodes(tree, ast.YieldFrom)]
            for node in nodes(tree, ast.Call):
                if called(node) in package.generators:
                    self.assertIn(node, at_once)
                    for arg in node.args + [keyword.value for keyword in node.keywords]:
                        self.assertIsInstance(arg, (ast.Name, ast.Attribute, ast.Constant))
            for node in nodes(tree, ast.Try, ast.With):
                self.assertFalse(is_generator(node))

    def test_ranges_and_views_are_iterated_at_once(self):
        for _, _, tree in files():
            at_once = [node.iter for node in nodes(tree, ast.For, ast.comprehension)]
            at_once += [arg for node in nodes(tree, ast.Call) for arg in node.args
                        if called(node) in ("list", "tuple", "enumerate", "zip", "reversed")]
            for node in nodes(tree, ast.Call):
                if called(node) in ("range", "zip", "enumerate", "reversed", "items", "keys", "values", "map"):
                    self.assertIn(node, at_once)

    def test_double_underscore_methods(self):
        package = Package()
        for kind in package.classes:
            functions = {node.name: node for node in kind.body if isinstance(node, ast.FunctionDef)}
            if "__getitem__" in functions:
                self.assertIn("__iter__", functions)
            for name in ("__eq__", "__len__", "__str__", "__repr__"):
                if name in functions:
                    self.assertEqual(nodes(functions[name], ast.Assign, ast.ListComp, ast.For), [])
                    self.assertIsInstance(functions[name].body[-1], ast.Return)
            if "__init__" in functions:
                self.assertEqual(nodes(functions["__init__"], ast.Return), [])
            for name, function in functions.items():
                if name.startswith("__") and name not in ("__init__", "__enter__", "__exit__"):
                    stored = [node for node in nodes(function, ast.Attribute) if isinstance(node.ctx, ast.Store)]
                    self.assertEqual(stored, [], f"{kind.name}.{name}")

    def test_handlers_catch_own_errors(self):
        package = Package()
        errors = {node.name for node in package.classes if node.name == "WatchError" or node.bases}
        for tree in package.trees:
            for node in nodes(tree, ast.ExceptHandler):
                self.assertIn(getattr(node.type, "id", None), errors)
            for node in nodes(tree, ast.Raise):
                self.assertIn(called(node.exc) if isinstance(node.exc, ast.Call) else None, errors | {"TypeError"})
                self.assertTrue(node.cause is None or isinstance(node.cause, ast.Name) or node.cause.value is None)

    def test_exits_only_assign_attributes(self):
        for kind in Package().classes:
            for function in kind.body:
                if getattr(function, "name", "") == "__exit__":
                    self.assertEqual([argument.arg for argument in function.args.args],
                                     ["self", "kind", "value", "trace"])
                    for row in function.body:
                        self.assertIsInstance(row, ast.Assign)
                        self.assertIsInstance(row.value, ast.Attribute)

    def test_super_calls_a_method_above(self):
        package = Package()
        above = {node.name: [base.id for base in node.bases] for node in package.classes}
        methods = {node.name: {child.name for child in node.body if isinstance(child, ast.FunctionDef)}
                   for node in package.classes}
        for node in package.classes:
            if not set(above[node.name]) & set(above):
                self.assertEqual([used for used in nodes(node, ast.Name) if used.id == "super"], [])
            for used in nodes(node, ast.Attribute):
                if isinstance(used.value, ast.Call) and called(used.value) == "super":
                    self.assertTrue(any(used.attr in methods.get(base, ()) for base in above[node.name]), used.attr)
