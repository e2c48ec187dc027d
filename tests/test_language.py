"""The package keeps to its subset of Python, as far as a look at the syntax can tell."""

import ast
import builtins
import os
import re
import unittest

import unfooled

FOLDER = os.path.dirname(unfooled.__file__)
BUILTINS = set("len range enumerate zip min max sum abs sorted reversed int str bool list tuple dict "
               "set isinstance ord repr any all divmod KeyError ValueError IndexError TypeError".split())
METHODS = set("append clear copy count endswith extend find get index insert isalnum isalpha isdigit "
              "islower isspace isupper items join keys ljust lower lstrip partition pop remove replace "
              "reverse rfind rjust rpartition rsplit rstrip setdefault split splitlines startswith strip "
              "update upper values zfill".split())
BARRED_ATTRIBUTES = set("items keys values pop update append clear extend insert remove reverse "
                        "setdefault sort args encode decode hex fromhex format register mro elements "
                        "open input".split())
BARRED_WORDS = ("typing|enum|Enum|Flag|Generic|Protocol|ABC|namedtuple|NamedTuple|TypedDict|dataclass|"
                "overload|contextmanager|type|_wall|register|mro|elements|eval|exec|globals|vars")
LIBRARY = {("heapq", "heappush"), ("heapq", "heappop"), ("itertools", "combinations"), ("math", "gcd")}
BARRED_NODES = (ast.GeneratorExp, ast.Global, ast.Nonlocal, ast.AsyncFunctionDef, ast.Yield,
                ast.YieldFrom, ast.NamedExpr, ast.Div, ast.Set, ast.Import, ast.AnnAssign, ast.MatMult,
                ast.Delete, ast.Await)


def trees():
    found = {}
    for name in sorted(os.listdir(FOLDER)):
        if name.endswith(".py"):
            with open(os.path.join(FOLDER, name), encoding="utf-8") as file:
                text = file.read()
            found[name[:-3]] = (text, ast.parse(text))
    return found


def bound_at_top(tree):
    found = []
    for node in tree.body:
        if isinstance(node, (ast.FunctionDef, ast.ClassDef)):
            found.append(node.name)
        if isinstance(node, ast.Assign):
            found.append(node.targets[0].id)
    return found


def imported(tree):
    return [(node.module, name.name) for node in tree.body if isinstance(node, ast.ImportFrom)
            for name in node.names]


def own_names(tree):
    """Names of parameters and local variables."""
    found = set()
    for node in ast.walk(tree):
        if isinstance(node, ast.arg):
            found.add(node.arg)
        if isinstance(node, ast.ExceptHandler) and node.name:
            found.add(node.name)
    for function in ast.walk(tree):
        if isinstance(function, ast.FunctionDef):
            found |= {node.id for node in ast.walk(function)
                      if isinstance(node, ast.Name) and isinstance(node.ctx, ast.Store)}
    return found


class Language(unittest.TestCase):
    def setUp(self):
        self.trees = trees()
        self.methods, self.attributes = set(), set()
        for _, tree in self.trees.values():
            for node in ast.walk(tree):
                if isinstance(node, ast.ClassDef):
                    self.methods |= {one.name for one in node.body if isinstance(one, ast.FunctionDef)}
                if isinstance(node, ast.Attribute) and isinstance(node.ctx, ast.Store):
                    self.attributes.add(node.attr)

    def nodes(self, *kinds):
        for name, (_, tree) in self.trees.items():
            for node in ast.walk(tree):
                if isinstance(node, kinds):
                    yield name, node

    def test_files(self):
        self.assertEqual([name for name in os.listdir(FOLDER)
                          if not name.endswith(".py") and name != "__pycache__"], [])
        self.assertEqual(len(self.trees["__init__"][1].body), 1)
        for name, (text, tree) in self.trees.items():
            self.assertRegex(name, r"^[a-z_]+$")
            self.assertTrue(re.fullmatch(r"[ -~\n]*", text), name)
            lines = text.split("\n")
            self.assertLess(len(lines), 400, name)
            self.assertLessEqual(max(map(len, lines)), 120, name)
            for node in ast.walk(tree):
                if isinstance(node, ast.FunctionDef):
                    self.assertLessEqual(node.end_lineno - node.lineno + 1, 40, (name, node.name))
            code = "\n".join(line.split("#")[0] for line in lines)
            self.assertIsNone(re.search(rf"\b({BARRED_WORDS})\b", code), name)

    def test_imports(self):
        reached = {name: {module.split(".")[1] for module, _ in imported(tree)
                          if module.startswith("unfooled.")} for name, (_, tree) in self.trees.items()}
        for name, (_, tree) in self.trees.items():
            for module, word in imported(tree):
                if (module, word) not in LIBRARY:
                    self.assertTrue(module.startswith("unfooled."), module)
                    self.assertIn(word, bound_at_top(self.trees[module.split(".")[1]][1]), (name, word))
                self.assertTrue(any(isinstance(node, ast.Name) and node.id == word
                                    for node in ast.walk(tree)), (name, word))
        while reached:
            ends = [name for name in reached if not reached[name] & set(reached)]
            self.assertNotEqual(ends, [], "files import from each other")
            for name in ends:
                del reached[name]

    def test_barred_syntax(self):
        self.assertEqual([(name, node.lineno) for name, node in self.nodes(*BARRED_NODES)
                          if hasattr(node, "lineno")], [])
        for name, node in self.nodes(ast.BinOp, ast.Constant):
            self.assertFalse(isinstance(node, ast.BinOp) and isinstance(node.op, ast.Div), name)
            if isinstance(node, ast.Constant):
                self.assertNotIsInstance(node.value, (float, bytes, complex))
                self.assertFalse(isinstance(node.value, str) and "%" in node.value, name)
        for name, node in self.nodes(ast.Compare):
            for sign, right in zip(node.ops, node.comparators):
                if isinstance(sign, (ast.Is, ast.IsNot)):
                    self.assertIn(getattr(right, "value", 0), (None, True, False), name)
        for name, node in self.nodes(ast.FunctionDef):
            told = [one.id for one in node.decorator_list]
            self.assertIn(told, ([], ["property"], ["staticmethod"]), name)
            self.assertIsNone(node.returns)

    def test_names(self):
        known = set(dir(builtins))
        for name, (_, tree) in self.trees.items():
            barred = {word for _, word in imported(tree)}
            barred |= {node.name for node in tree.body if isinstance(node, ast.ClassDef)}
            local = own_names(tree)
            self.assertEqual(local & barred, set(), name)
            self.assertEqual((local | set(bound_at_top(tree))) & known, set(), name)
            bound = local | barred | set(bound_at_top(tree))
            self.assertEqual(len(bound_at_top(tree)), len(set(bound_at_top(tree))))
            for node in ast.walk(tree):
                if isinstance(node, ast.Name) and node.id not in bound:
                    self.assertIn(node.id, BUILTINS | {"property", "staticmethod"}, (name, node.lineno))
        self.assertEqual(self.attributes & (BARRED_ATTRIBUTES | self.methods), set())

    def test_calls(self):
        for name, node in self.nodes(ast.Call):
            if isinstance(node.func, ast.Attribute):
                self.assertIn(node.func.attr, METHODS | self.methods, (name, node.lineno))
        for name, node in self.nodes(ast.Attribute):
            self.assertIn(node.attr, METHODS | self.methods | self.attributes, (name, node.lineno))

    def test_sets_and_views_are_used_at_once(self):
        for name, (_, tree) in self.trees.items():
            parents = {child: node for node in ast.walk(tree) for child in ast.iter_child_nodes(node)}
            for node in ast.walk(tree):
                called = node.func.id if isinstance(node, ast.Call) and isinstance(node.func, ast.Name) else ""
                above = parents.get(node)
                outer = getattr(getattr(above, "func", None), "id", "")
                if called == "set" or isinstance(node, ast.SetComp):
                    self.assertIn(outer, ("sorted", "len"), (name, node.lineno))
                if called in ("zip", "enumerate", "reversed"):
                    self.assertTrue(isinstance(above, (ast.For, ast.comprehension))
                                    or outer in ("list", "dict", "tuple", "sorted"), (name, node.lineno))

    def test_stars_stand_over_no_views(self):
        for name, node in self.nodes(ast.Starred):
            called = getattr(node.value, "func", None)
            self.assertNotIn(getattr(called, "attr", ""), ("items", "keys", "values"), (name, node.lineno))

    def test_views_stand_in_no_tests(self):
        for name, node in self.nodes(ast.Compare):
            for right in node.comparators:
                called = getattr(getattr(right, "func", None), "attr", "")
                self.assertNotIn(called, ("items", "values"), (name, node.lineno))

    def test_plain_arguments_behind_a_star(self):
        for name, node in self.nodes(ast.Call):
            stars = [at for at, one in enumerate(node.args) if isinstance(one, ast.Starred)]
            for one in node.args[stars[0] + 1:] if stars else []:
                self.assertIsInstance(one, (ast.Name, ast.Constant, ast.Attribute), (name, node.lineno))

    def test_local_names_hide_nothing(self):
        for name, (_, tree) in self.trees.items():
            self.assertEqual(own_names(tree) & set(bound_at_top(tree)), set(), name)

    def test_loops_change_nothing_that_they_go_over(self):
        for name, node in self.nodes(ast.For):
            over = {ast.unparse(one) for one in ast.walk(node.iter)
                    if isinstance(one, (ast.Name, ast.Attribute, ast.Subscript))}
            for one in ast.walk(ast.Module(node.body, [])):
                if isinstance(one, ast.Call) and isinstance(one.func, ast.Attribute):
                    if one.func.attr in ("append", "pop", "remove", "insert", "extend", "clear", "update"):
                        self.assertNotIn(ast.unparse(one.func.value), over, (name, one.lineno))
                if isinstance(one, ast.Subscript) and isinstance(one.ctx, ast.Store):
                    self.assertNotIn(ast.unparse(one.value), over, (name, one.lineno))

    def test_tables_are_only_read(self):
        for name, (_, tree) in self.trees.items():
            tables = [node.targets[0].id for node in tree.body if isinstance(node, ast.Assign)
                      and isinstance(node.value, (ast.Dict, ast.List))]
            parents = {child: node for node in ast.walk(tree) for child in ast.iter_child_nodes(node)}
            for node in ast.walk(tree):
                if isinstance(node, ast.Name) and node.id in tables and isinstance(node.ctx, ast.Load):
                    above = parents[node]
                    fine = (isinstance(above, ast.Attribute) and above.attr == "get"
                            or isinstance(above, ast.Subscript)
                            or isinstance(above, ast.Call) and above.func.id in ("dict", "list"))
                    self.assertTrue(fine, (name, node.lineno))
