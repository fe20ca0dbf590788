"""The package keeps to the small part of Python in which it is written, as far as a test can tell."""

import ast
import builtins
import os
import unittest

import stillinstep

FOLDER = os.path.dirname(stillinstep.__file__)
BUILTINS = {
    "len", "range", "enumerate", "zip", "min", "max", "sum", "abs", "sorted", "reversed", "int", "str", "bool", "list",
    "tuple", "dict", "set", "isinstance", "ord", "property", "repr", "any", "all", "divmod", "ValueError", "KeyError",
    "TypeError",
}
METHODS = {
    "append", "clear", "copy", "count", "endswith", "extend", "find", "get", "index", "insert", "isalnum", "isalpha",
    "isdigit", "islower", "isspace", "isupper", "items", "join", "keys", "ljust", "lower", "lstrip", "partition", "pop",
    "remove", "replace", "reverse", "rfind", "rjust", "rpartition", "rsplit", "rstrip", "setdefault", "split",
    "splitlines", "startswith", "strip", "update", "upper", "values", "zfill", "bit_length",
}
STATEMENTS = (
    ast.Assign, ast.AugAssign, ast.If, ast.While, ast.For, ast.Return, ast.Break, ast.Continue, ast.Pass, ast.Raise,
    ast.Assert, ast.Delete, ast.Try, ast.Expr, ast.FunctionDef, ast.ClassDef, ast.ImportFrom,
)
WORDS = (
    "type", "typing", "enum", "Enum", "Flag", "Generic", "Protocol", "ABC", "namedtuple", "NamedTuple", "TypedDict",
    "abstractmethod", "mro", "elements", "open", "input", "law", "register", "eval", "exec", "globals", "locals",
    "getattr", "setattr", "hasattr", "vars", "dir", "id", "super", "os", "sys", "compile", "exit", "help",
)


def sources():
    """The texts of the files of the package, by name."""
    found = {}
    for name in sorted(os.listdir(FOLDER)):
        if name != "__pycache__":
            with open(os.path.join(FOLDER, name), encoding="utf-8") as file:
                found[name] = file.read()
    return found


def bound_names(tree):
    """The names that are bound at module level, with repetitions."""
    names = []
    for node in tree.body:
        if isinstance(node, (ast.FunctionDef, ast.ClassDef)):
            names.append(node.name)
        elif isinstance(node, ast.Assign):
            names += [target.id for target in node.targets]
        elif isinstance(node, ast.ImportFrom):
            names += [alias.name for alias in node.names]
    return names


def own_methods(trees):
    """The names of all methods of the package."""
    return {part.name for tree in trees for node in tree.body if isinstance(node, ast.ClassDef)
            for part in node.body if isinstance(part, ast.FunctionDef)}


class Language(unittest.TestCase):
    def setUp(self):
        self.sources = sources()
        self.trees = {name: ast.parse(text) for name, text in self.sources.items()}

    def nodes(self, *kinds):
        """The pairs of a place and a node, for all nodes of these kinds in all files."""
        for name, tree in self.trees.items():
            for node in ast.walk(tree):
                if isinstance(node, kinds):
                    yield f"{name} line {getattr(node, 'lineno', '?')}", node

    def test_files(self):
        self.assertIn("__init__.py", self.sources)
        for name, text in self.sources.items():
            with self.subTest(name):
                self.assertRegex(name, r"^[a-z_0-9]+\.py$")
                self.assertLessEqual(len(text.split("\n")), 399)
                self.assertLessEqual(max(len(line) for line in text.split("\n")), 120)
                self.assertTrue(all(sign == "\n" or " " <= sign <= "~" for sign in text))
        for where, node in self.nodes(ast.Constant):
            self.assertNotIn("%", node.value if isinstance(node.value, str) else "", where)

    def test_functions_are_small_and_plain(self):
        for where, node in self.nodes(ast.FunctionDef):
            self.assertLessEqual(node.end_lineno - node.lineno + 1, 40, where)
            if node.decorator_list:
                self.assertEqual([ast.unparse(part) for part in node.decorator_list], ["property"], where)
                self.assertEqual(ast.unparse(node.args), "self", where)
            if node.name.startswith("__"):
                self.assertIn(node.name, ("__init__", "__eq__"), where)

    def test_statements(self):
        for where, node in self.nodes(ast.stmt):
            self.assertIsInstance(node, STATEMENTS, where)

    def test_module_level(self):
        for name, tree in self.trees.items():
            with self.subTest(name):
                self.assertIsNotNone(ast.get_docstring(tree))
                for node in tree.body[1:]:
                    self.assertIsInstance(node, (ast.ImportFrom, ast.Assign, ast.FunctionDef, ast.ClassDef))
                    if isinstance(node, ast.Assign):
                        self.assertEqual(len(node.targets), 1)
                        self.assertIsInstance(node.targets[0], ast.Name)
                        self.assertFalse([part for part in ast.walk(node.value)
                                          if isinstance(part, (ast.Call, ast.comprehension, ast.Set))])
                names = bound_names(tree)
                self.assertEqual(len(names), len(set(names)))

    def test_imports(self):
        seen = {}
        for name, tree in self.trees.items():
            seen[name] = []
            for node in ast.walk(tree):
                self.assertNotIsInstance(node, ast.Import)
                if isinstance(node, ast.ImportFrom):
                    package, module = node.module.split(".")
                    self.assertEqual((package, node.level), ("stillinstep", 0))
                    seen[name].append(module + ".py")
                    defined = [part for part in self.trees[module + ".py"].body if not isinstance(part, ast.ImportFrom)]
                    for alias in node.names:
                        self.assertIsNone(alias.asname)
                        self.assertIn(alias.name, bound_names(ast.Module(defined, [])))
        while seen:
            free = [name for name, needed in seen.items() if not any(other in seen for other in needed)]
            self.assertTrue(free, f"these import from each other: {sorted(seen)}")
            seen = {name: needed for name, needed in seen.items() if name not in free}

    def test_names_that_are_bound(self):
        for name, tree in self.trees.items():
            fixed = {node.name for node in tree.body if isinstance(node, ast.ClassDef)}
            fixed |= {alias.name for node in tree.body if isinstance(node, ast.ImportFrom) for alias in node.names}
            for node in ast.walk(tree):
                bound = []
                if isinstance(node, ast.Name) and isinstance(node.ctx, ast.Store):
                    bound = [node.id]
                elif isinstance(node, ast.arg):
                    bound = [node.arg]
                for word in bound:
                    with self.subTest(f"{name} {word}"):
                        self.assertFalse(word in vars(builtins))
                        self.assertNotIn(word, fixed)
                        self.assertRegex(word, r"^(_|_?[A-Za-z][A-Za-z0-9_]*)$")
                if isinstance(node, (ast.FunctionDef, ast.ClassDef)):
                    self.assertFalse(node.name in vars(builtins) and not node.name.startswith("__"))

    def test_builtins(self):
        for name, tree in self.trees.items():
            known = set(bound_names(tree))
            for node in ast.walk(tree):
                if isinstance(node, ast.Name) and node.id in vars(builtins) and node.id not in known:
                    with self.subTest(f"{name} line {node.lineno}"):
                        self.assertIn(node.id, BUILTINS)

    def test_methods(self):
        own = own_methods(self.trees.values())
        for where, node in self.nodes(ast.Call):
            if isinstance(node.func, ast.Attribute):
                self.assertIn(node.func.attr, METHODS | own, where)

    def test_own_methods_have_names_of_their_own(self):
        values = ("", 0, [], {}, set(), b"", ())
        for name in own_methods(self.trees.values()):
            if not name.startswith("__"):
                self.assertFalse([value for value in values if hasattr(value, name)], name)

    def test_expressions(self):
        for where, node in self.nodes(ast.Compare):
            for sign, side in zip(node.ops, node.comparators):
                if isinstance(sign, (ast.Is, ast.IsNot)):
                    self.assertIsInstance(side, ast.Constant, where)
        for where, node in self.nodes(ast.expr):
            self.assertNotIsInstance(node, (ast.GeneratorExp, ast.Await, ast.YieldFrom, ast.NamedExpr, ast.Lambda), where)
            if isinstance(node, ast.JoinedStr):
                self.assertEqual(node.lineno, node.end_lineno, where)
            if isinstance(node, ast.Call):
                behind_stars = [part.value for part in node.args if isinstance(part, ast.Starred)]
                self.assertFalse([part for part in behind_stars if not isinstance(part, (ast.Name, ast.Attribute))], where)
            if isinstance(node, ast.Constant):
                self.assertNotIsInstance(node.value, (float, complex), where)
            if isinstance(node, ast.BinOp):
                self.assertNotIsInstance(node.op, (ast.Div, ast.MatMult), where)
                if isinstance(node.op, ast.Pow):
                    self.assertIsInstance(node.right, ast.Constant, where)
                    self.assertLessEqual(node.right.value, 64, where)

    def test_what_is_iterated_at_once(self):
        """A range, zip or view stands where it is iterated; only a range may be kept, under a name of its own."""
        takers = ("list", "tuple", "dict", "sorted", "sum", "any", "all", "enumerate", "zip", "min", "max")
        for name, tree in self.trees.items():
            above = {child: node for node in ast.walk(tree) for child in ast.iter_child_nodes(node)}
            for node in ast.walk(tree):
                if not isinstance(node, ast.Call):
                    continue
                word = getattr(node.func, "id", getattr(node.func, "attr", ""))
                if word not in ("range", "zip", "enumerate", "reversed", "items", "keys", "values", "each_tick"):
                    continue
                up = above[node]
                good = isinstance(up, (ast.For, ast.comprehension)) and up.iter is node
                good = good or (isinstance(up, ast.Call) and getattr(up.func, "id", "") in takers)
                good = good or (word == "range" and isinstance(up, (ast.Assign, ast.Compare)))
                self.assertTrue(good, f"{name} line {node.lineno}")

    def test_properties(self):
        """A property is only read, and it modifies nothing."""
        names = set()
        for where, node in self.nodes(ast.FunctionDef):
            if node.decorator_list:
                names.add(node.name)
                for part in ast.walk(node):
                    self.assertFalse(isinstance(getattr(part, "ctx", None), (ast.Store, ast.Del)), where)
                    if isinstance(part, ast.Call):
                        self.assertIsInstance(part.func, ast.Name, where)
        for where, node in self.nodes(ast.Attribute):
            self.assertFalse(node.attr in names and not isinstance(node.ctx, ast.Load), where)
        for where, node in self.nodes(ast.Call):
            self.assertFalse(isinstance(node.func, ast.Attribute) and node.func.attr in names, where)

    def test_generators(self):
        """Each yield is a statement of its own in a function at module level that returns no value."""
        for tree in self.trees.values():
            yields = {id(node) for node in ast.walk(tree) if isinstance(node, ast.Yield)}
            for function in [node for node in tree.body if isinstance(node, ast.FunctionDef)]:
                own = {id(node.value) for node in ast.walk(function) if isinstance(node, ast.Expr)} & yields
                returns = [node.value for node in ast.walk(function) if isinstance(node, ast.Return)]
                self.assertTrue(not own or not any(returns))
                yields -= own
            self.assertEqual(yields, set())

    def test_imports_are_used(self):
        for name, tree in self.trees.items():
            words = {node.id for node in ast.walk(tree) if isinstance(node, ast.Name)}
            for node in tree.body:
                if isinstance(node, ast.ImportFrom):
                    self.assertLessEqual({alias.name for alias in node.names}, words, name)

    def test_keywords_of_builtins(self):
        known = {"sorted": {"reverse"}, "enumerate": {"start"}, "sum": {"start"}, "zip": {"strict"}}
        for where, node in self.nodes(ast.Call):
            if isinstance(node.func, ast.Name) and node.func.id in BUILTINS:
                self.assertLessEqual({word.arg for word in node.keywords}, known.get(node.func.id, set()), where)

    def test_sets_are_only_sorted_or_measured(self):
        for tree in self.trees.values():
            allowed = set()
            for node in ast.walk(tree):
                if isinstance(node, ast.Call) and isinstance(node.func, ast.Name) and node.func.id in ("sorted", "len"):
                    allowed |= set(map(id, node.args))
            for node in ast.walk(tree):
                is_set = isinstance(node, (ast.SetComp, ast.Set))
                is_set = is_set or (isinstance(node, ast.Call) and getattr(node.func, "id", "") == "set")
                self.assertTrue(not is_set or id(node) in allowed)

    def test_words_that_are_no_names(self):
        fields = ("id", "attr", "arg", "name")
        kinds = (ast.Name, ast.Attribute, ast.arg, ast.keyword, ast.FunctionDef, ast.ClassDef, ast.alias)
        for where, node in self.nodes(*kinds):
            for field in fields:
                self.assertNotIn(getattr(node, field, None), WORDS, where)


if __name__ == "__main__":
    unittest.main()
