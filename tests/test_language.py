"""The rules of the language that can be seen in the files of the package, one by one."""

import ast
import builtins
import unittest
from pathlib import Path

ROOT = Path(__file__).resolve().parent.parent
PACKAGE = ROOT / "mayrows"
FILES = sorted(path for path in PACKAGE.rglob("*") if path.is_file() and "__pycache__" not in path.parts)
TREES = {path: ast.parse(path.read_text(encoding="utf-8")) for path in FILES}

ALLOWED_BUILTINS = set(
    "len range enumerate zip min max sum abs sorted reversed int str bool bytes list tuple dict set frozenset isinstance "
    "ord repr any all divmod pow iter next map Exception ValueError TypeError KeyError IndexError LookupError "
    "ZeroDivisionError ArithmeticError OverflowError RuntimeError NotImplementedError AttributeError StopIteration "
    "NotImplemented property classmethod staticmethod super".split())
ALLOWED_METHODS = set(
    "append clear copy count endswith extend find get index insert isalnum isalpha isdigit islower isspace isupper items "
    "join keys ljust lower lstrip partition pop remove replace reverse rfind rjust rpartition rsplit rstrip setdefault "
    "split splitlines startswith strip update upper values zfill bit_length add discard".split())
ALLOWED_DOUBLE = set(
    "__init__ __eq__ __repr__ __str__ __len__ __enter__ __exit__ __call__ __iter__ __lt__ __le__ __gt__ __ge__ __ne__ "
    "__add__ __sub__ __mul__ __floordiv__ __mod__ __pow__ __and__ __or__ __xor__ __lshift__ __rshift__ __neg__ __pos__ "
    "__invert__ __abs__ __bool__ __contains__ __getitem__ __setitem__".split())
ALLOWED_STATEMENTS = (
    ast.Assign, ast.AugAssign, ast.If, ast.While, ast.For, ast.Return, ast.Break, ast.Continue, ast.Pass, ast.Raise,
    ast.Assert, ast.Delete, ast.Expr, ast.With, ast.Try, ast.FunctionDef, ast.ClassDef, ast.ImportFrom)
BARRED_NAMES = set(
    "register mro elements open input law version_info with_traceback add_note attrgetter breakpoint builtins compile "
    "copyright credits delattr dir eval exec exit gc getattr globals hasattr help id importlib license locals "
    "methodcaller os quit setattr type vars sys typing enum dataclass overload contextmanager namedtuple".split())
TAKE_LISTS = ("any", "all", "min", "max", "sum", "sorted")


def nodes(kind):
    """Each node of a kind with its file."""
    return [(path, node) for path, tree in TREES.items() for node in ast.walk(tree) if isinstance(node, kind)]


def module_name(path):
    """The name by which a file is imported."""
    parts = path.relative_to(ROOT).with_suffix("").parts
    return ".".join(parts[:-1] if parts[-1] == "__init__" else parts)


def is_call_of(node, name):
    """Whether the node is a call of this name."""
    return isinstance(node, ast.Call) and getattr(node.func, "id", None) == name


def is_stored(node):
    """Whether the name is assigned there."""
    return isinstance(node.ctx, ast.Store)


def assigned_names(function):
    """The names that a function assigns by statements and loops, not by comprehensions."""
    found = []
    for node in ast.walk(function):
        if isinstance(node, ast.Assign):
            targets = node.targets
        elif isinstance(node, (ast.AugAssign, ast.For)):
            targets = [node.target]
        else:
            continue
        found += [one.id for target in targets for one in ast.walk(target) if isinstance(one, ast.Name) and is_stored(one)]
    return found


def bound_names(tree):
    """The names of a module's level, one for each binding."""
    found = []
    for node in tree.body:
        if isinstance(node, ast.ImportFrom):
            found += [alias.name for alias in node.names]
        elif isinstance(node, (ast.FunctionDef, ast.ClassDef)):
            found.append(node.name)
        elif isinstance(node, ast.Assign):
            found += [target.id for target in node.targets]
    return found


class FilesTest(unittest.TestCase):

    def test_files_and_folders(self):
        self.assertLessEqual(len(FILES), 100)
        for path in FILES:
            self.assertRegex(path.name, r"^[a-z0-9_]+\.py$")
            self.assertTrue((path.parent / "__init__.py").exists(), path)
            self.assertFalse(path.with_suffix("").is_dir(), path)
            self.assertFalse(path.stem in dir(builtins) or path.stem.startswith(("test", "law_")), path)

    def test_sizes_and_characters(self):
        for path in FILES:
            text = path.read_text(encoding="utf-8")
            self.assertLessEqual(len(text.splitlines()), 399, path)
            self.assertLessEqual(max([len(line) for line in text.splitlines()]), 120, path)
            self.assertEqual({mark for mark in text if mark != "\n" and not " " <= mark <= "~"}, set(), path)
        for path, node in nodes(ast.FunctionDef):
            self.assertLessEqual(node.end_lineno - node.lineno + 1, 40, (path, node.name))

    def test_statements(self):
        for path, node in nodes(ast.stmt):
            self.assertIsInstance(node, ALLOWED_STATEMENTS, (path, node.lineno))
        for path, tree in TREES.items():
            for node in tree.body:
                kinds = (ast.Expr, ast.ImportFrom, ast.FunctionDef, ast.ClassDef, ast.Assign)
                self.assertIsInstance(node, kinds, (path, node.lineno))
                self.assertTrue(not isinstance(node, ast.Expr) or isinstance(node.value, ast.Constant), path)


class NamesTest(unittest.TestCase):

    def test_imports(self):
        uses = {}
        for path, node in nodes(ast.ImportFrom):
            target = PACKAGE.parent.joinpath(*node.module.split(".")).with_suffix(".py")
            self.assertTrue(target.is_file() and node.level == 0, (path, node.module))
            defined = [one.name for one in TREES[target].body if isinstance(one, (ast.FunctionDef, ast.ClassDef))]
            defined += [one.targets[0].id for one in TREES[target].body if isinstance(one, ast.Assign)]
            for alias in node.names:
                self.assertIsNone(alias.asname)
                self.assertIn(alias.name, defined, (path, node.module))
            uses.setdefault(module_name(path), []).append(node.module)
        while uses:
            free = [name for name, used in uses.items() if not set(used) & set(uses)]
            self.assertTrue(free, "files import from each other: {}".format(sorted(uses)))
            for name in free:
                del uses[name]

    def test_each_import_is_used(self):
        for path, node in nodes(ast.ImportFrom):
            used = {one.id for one in ast.walk(TREES[path]) if isinstance(one, ast.Name)}
            for alias in node.names:
                self.assertIn(alias.name, used, path)

    def test_one_binding_for_each_name(self):
        for path, tree in TREES.items():
            found = bound_names(tree)
            self.assertEqual(len(found), len(set(found)), path)
            self.assertEqual(set(found) & (set(dir(builtins)) | BARRED_NAMES), set(), path)

    def test_local_names(self):
        for path, tree in TREES.items():
            outer = [alias.name for node in tree.body if isinstance(node, ast.ImportFrom) for alias in node.names]
            outer += [node.name for node in tree.body if isinstance(node, ast.ClassDef)]
            barred = set(dir(builtins)) | BARRED_NAMES | set(outer)
            for node in ast.walk(tree):
                if isinstance(node, ast.arg):
                    self.assertNotIn(node.arg, barred, (path, node.lineno))
                elif isinstance(node, ast.Name) and isinstance(node.ctx, ast.Store):
                    self.assertNotIn(node.id, barred, (path, node.lineno))
                elif isinstance(node, ast.Name) and hasattr(builtins, node.id):
                    self.assertIn(node.id, ALLOWED_BUILTINS, (path, node.lineno))

    def test_methods_and_decorators(self):
        own = {node.name for path, node in nodes(ast.FunctionDef)}
        stored = {node.attr for path, node in nodes(ast.Attribute) if isinstance(node.ctx, ast.Store)}
        for path, node in nodes(ast.Attribute):
            self.assertIn(node.attr, own | stored | ALLOWED_METHODS, (path, node.lineno))
        for path, node in nodes(ast.FunctionDef):
            self.assertTrue(not node.name.startswith("__") or node.name in ALLOWED_DOUBLE, (path, node.name))
            for decorator in node.decorator_list:
                self.assertIn(decorator.id, ("property", "classmethod", "staticmethod"), (path, node.name))

    def test_properties_are_called_like_nothing_else(self):
        named = {True: set(), False: set()}
        for path, node in nodes(ast.ClassDef):
            for method in node.body:
                if isinstance(method, ast.FunctionDef):
                    is_property = any(one.id == "property" for one in method.decorator_list)
                    named[is_property].add(method.name)
        stored = {node.attr for path, node in nodes(ast.Attribute) if isinstance(node.ctx, ast.Store)}
        self.assertEqual(named[True] & (named[False] | stored | ALLOWED_METHODS), set())

    def test_generators(self):
        found = [(path, node) for path, node in nodes(ast.FunctionDef)
                 if any(isinstance(one, (ast.Yield, ast.YieldFrom)) for one in ast.walk(node))]
        names = [node.name for path, node in found]
        every = [node.name for path, node in nodes(ast.FunctionDef)]
        for name in names:
            self.assertEqual(every.count(name), 1, name)
        for path, node in nodes((ast.For, ast.comprehension, ast.Call, ast.Assign, ast.Return)):
            # A generator is called where it is iterated over: behind the `in` of a loop.
            for child in ast.iter_child_nodes(node):
                if isinstance(child, ast.Call) and getattr(child.func, "id", None) in names:
                    self.assertIsInstance(node, (ast.For, ast.comprehension), (path, child.lineno))
                    for part in child.args:
                        self.assertIsInstance(part, (ast.Name, ast.Attribute, ast.Constant), (path, child.lineno))


class ExpressionsTest(unittest.TestCase):

    def test_numbers_and_strings(self):
        for path, node in nodes(ast.Constant):
            self.assertIsInstance(node.value, (int, str, bool, type(None)), path)
            if isinstance(node.value, str):
                self.assertNotIn("%", node.value, path)
        for path, node in nodes(ast.BinOp):
            self.assertNotIsInstance(node.op, (ast.Div, ast.MatMult), path)
            if isinstance(node.op, ast.Pow):
                self.assertIsInstance(node.right, ast.Constant, (path, node.lineno))

    def test_lists_instead_of_generator_expressions(self):
        for path, node in nodes(ast.Call):
            if isinstance(node.func, ast.Name) and node.func.id in TAKE_LISTS:
                for part in node.args:
                    self.assertNotIsInstance(part, ast.GeneratorExp, (path, node.lineno))

    def test_sets_are_not_iterated_over(self):
        for path, node in nodes((ast.For, ast.comprehension)):
            self.assertNotIsInstance(node.iter, (ast.Set, ast.SetComp), path)
            is_set = isinstance(node.iter, ast.Call) and getattr(node.iter.func, "id", None) == "set"
            self.assertFalse(is_set, path)

    def test_stored_sets(self):
        for path, function in nodes(ast.FunctionDef):
            stored = [node.targets[0].id for node in ast.walk(function) if isinstance(node, ast.Assign)
                      and (isinstance(node.value, (ast.Set, ast.SetComp)) or is_call_of(node.value, "set"))]
            for name in stored:
                bound = [node for node in ast.walk(function) if isinstance(node, ast.Name) and node.id == name
                         and isinstance(node.ctx, ast.Store)]
                self.assertEqual(len(bound), 1, (path, name))
                for node in ast.walk(function):
                    # A set is only looked into, measured and sorted.
                    if isinstance(node, ast.Call) and any(getattr(part, "id", None) == name for part in node.args):
                        self.assertIn(getattr(node.func, "id", None), ("len", "sorted"), (path, name))
                    elif isinstance(node, (ast.Return, ast.For, ast.comprehension)):
                        held = node.value if isinstance(node, ast.Return) else node.iter
                        self.assertNotEqual(getattr(held, "id", None), name, path)

    def test_loops_do_not_change_what_they_iterate_over(self):
        for path, loop in nodes(ast.For):
            names = {node.id for node in ast.walk(loop.iter) if isinstance(node, ast.Name)}
            for node in [one for part in loop.body for one in ast.walk(part)]:
                changed = []
                if isinstance(node, ast.Call) and isinstance(node.func, ast.Attribute):
                    if node.func.attr in ("append", "extend", "pop", "insert", "remove", "clear", "update", "reverse"):
                        changed.append(node.func.value)
                elif isinstance(node, (ast.Assign, ast.AugAssign)):
                    targets = node.targets if isinstance(node, ast.Assign) else [node.target]
                    changed += [target.value for target in targets if isinstance(target, ast.Subscript)]
                for value in changed:
                    self.assertNotIn(getattr(value, "id", None), names, (path, node.lineno))

    def test_lambdas_are_keys(self):
        keys = [part.value for path, node in nodes(ast.Call) for part in node.keywords if part.arg == "key"]
        for path, node in nodes(ast.Lambda):
            self.assertIn(node, keys, (path, node.lineno))

    def test_inner_variables_have_names_of_their_own(self):
        for path, function in nodes(ast.FunctionDef):
            kinds = (ast.ListComp, ast.SetComp, ast.DictComp)
            found = [node for node in ast.walk(function) if isinstance(node, kinds)]
            inside = [inner for node in found for inner in ast.walk(node) if isinstance(inner, kinds) and inner != node]
            for node in inside:
                for part in node.generators:
                    names = {one.id for one in ast.walk(part.target) if isinstance(one, ast.Name)} - {"_"}
                    self.assertEqual(names & set(assigned_names(function)), set(), (path, node.lineno))

    def test_returns_of_double_underscore_methods(self):
        for path, function in nodes(ast.FunctionDef):
            returned = [node.value for node in ast.walk(function) if isinstance(node, ast.Return)]
            if function.name == "__len__":
                self.assertTrue(all(is_call_of(value, "len") for value in returned), path)
            elif function.name == "__str__":
                self.assertTrue(all(isinstance(value, ast.JoinedStr) for value in returned), path)
            elif function.name == "__init__":
                self.assertEqual(returned, [], path)

    def test_identity(self):
        for path, node in nodes(ast.Compare):
            for operator, right in zip(node.ops, node.comparators):
                if isinstance(operator, (ast.Is, ast.IsNot)):
                    self.assertIsInstance(right, ast.Constant, (path, node.lineno))

    def test_handlers(self):
        own = [node.name for path, node in nodes(ast.ClassDef) if path.name == "errors.py"]
        for path, function in nodes(ast.FunctionDef):
            named = []
            for node in [one for one in ast.walk(function) if isinstance(one, ast.ExceptHandler)]:
                self.assertIn(node.type.id, own, (path, node.lineno))
                named += [node.name] if node.name else []
            # Nothing else in the function has the name of a caught error.
            stored = [node.id for node in ast.walk(function) if isinstance(node, ast.Name) and is_stored(node)]
            self.assertEqual(len(named), len(set(named)), path)
            self.assertEqual(set(named) & set(stored + [one.arg for one in function.args.args]), set(), path)

    def test_items_and_contexts(self):
        for path, node in nodes(ast.ClassDef):
            methods = {one.name: one for one in node.body if isinstance(one, ast.FunctionDef)}
            self.assertTrue("__getitem__" not in methods or "__iter__" in methods, path)
            self.assertNotIn("keys", methods)
            if "__iter__" in methods:
                self.assertEqual(len(methods["__iter__"].body), 1, path)
                self.assertTrue(is_call_of(methods["__iter__"].body[0].value, "iter"), path)
            for one in methods["__exit__"].body if "__exit__" in methods else []:
                self.assertTrue(isinstance(one, ast.Assign) and isinstance(one.value, ast.Constant), path)
        for path in FILES:
            text = path.read_text(encoding="utf-8")
            self.assertNotRegex(text, r"\(type\)|Meta|metaclass=|_wall|\b_cold")

    def test_attributes_are_assigned_through_local_names(self):
        properties = {node.name for path, node in nodes(ast.FunctionDef)
                      if any(one.id == "property" for one in node.decorator_list)}
        for path, node in nodes(ast.Attribute):
            if isinstance(node.ctx, ast.Store):
                self.assertIsInstance(node.value, ast.Name, (path, node.lineno))
                self.assertNotIn(node.attr, properties, (path, node.lineno))

    def test_errors(self):
        for path, node in nodes(ast.Raise):
            self.assertIsInstance(node.exc, (ast.Call, type(None)), (path, node.lineno))
        for path, node in nodes((ast.AnnAssign, ast.GeneratorExp, ast.Global)):
            self.fail((path, node.lineno))
