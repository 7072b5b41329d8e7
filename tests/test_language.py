"""Rules of LANGUAGE.md that can be told from the code alone."""

import ast
import builtins
import glob
import os
import re
import unittest

HERE = os.path.dirname(os.path.abspath(__file__))
PACKAGE = os.path.join(HERE, "..", "wordvault")

ALLOWED_BUILTINS = set("""len range enumerate zip min max sum abs sorted reversed int str bool list tuple dict set
    isinstance ord repr any all divmod ValueError property""".split())
METHODS = set("""append clear copy count endswith extend find get index insert isalnum isalpha isdigit islower
    isspace isupper items join keys ljust lower lstrip partition pop remove replace reverse rfind rjust rpartition rsplit rstrip
    setdefault split splitlines startswith strip update upper values zfill bit_length""".split())
BARRED = set("""register mro elements open input law version_info with_traceback add_note attrgetter breakpoint builtins
    compile copyright credits delattr dir eval exec exit gc getattr globals hasattr help id importlib license locals
    methodcaller os quit setattr super type vars sys""".split())
BARRED_WORDS = re.compile(r"\b(type|typing|typing_extensions|enum|Enum|IntEnum|StrEnum|Flag|IntFlag|Generic|Protocol|ABC"
                          r"|ABCMeta|namedtuple|NamedTuple|TypedDict|TYPE_CHECKING|abstractmethod)\b")
BUILTIN_ATTRIBUTES = set(name for kind in (str, int, list, dict, set, bytes) for name in dir(kind))
ATTRIBUTES_ALLOWED = set("count index title find get join lower upper split strip copy add".split())
CHANGES = set("append extend insert pop remove clear setdefault update reverse".split())
TAKES_LISTS = ("any", "all", "min", "max", "sum", "sorted")


def sources():
    for path in sorted(glob.glob(os.path.join(PACKAGE, "*.py"))):
        with open(path, encoding="utf-8") as told:
            yield os.path.basename(path), told.read()


def functions(tree):
    return [node for node in ast.walk(tree) if isinstance(node, ast.FunctionDef)]


class LanguageTest(unittest.TestCase):
    def each(self):
        for name, text in sources():
            yield name, text, ast.parse(text)

    def test_folder(self):
        names = [name for name in os.listdir(PACKAGE) if name != "__pycache__"]
        for name in names:
            self.assertRegex(name, r"\A[a-z_0-9]+\.py\Z")
            self.assertFalse(name.startswith(("law_", "test")))
            self.assertNotIn(name[:-3], dir(builtins))
        self.assertLessEqual(len(names), 100)

    def test_lines(self):
        for name, text, tree in self.each():
            lines = text.split("\n")
            self.assertLessEqual(len(lines) - 1, 399)
            for number, line in enumerate(lines, 1):
                self.assertLessEqual(len(line), 120, f"{name} {number}")
                self.assertTrue(all(" " <= sign <= "~" for sign in line), f"{name} {number}")
            for node in functions(tree):
                self.assertLessEqual(node.end_lineno - node.lineno + 1, 40, f"{name} {node.name}")

    def test_imports(self):
        defined, edges = {}, {}
        for name, text, tree in self.each():
            defined[name[:-3]] = {node.name for node in tree.body if isinstance(node, (ast.FunctionDef, ast.ClassDef))}
            defined[name[:-3]] |= {node.targets[0].id for node in tree.body if isinstance(node, ast.Assign)}
        for name, text, tree in self.each():
            edges[name[:-3]] = []
            for node in ast.walk(tree):
                self.assertNotIsInstance(node, ast.Import)
                if isinstance(node, ast.ImportFrom) and node.module == "math":
                    self.assertIn(node, tree.body)
                    self.assertEqual([(alias.name, alias.asname) for alias in node.names], [("gcd", None)])
                elif isinstance(node, ast.ImportFrom):
                    self.assertIn(node, tree.body)
                    package, module = node.module.split(".")
                    self.assertEqual(package, "wordvault")
                    edges[name[:-3]].append(module)
                    used = {told.id for told in ast.walk(tree) if isinstance(told, ast.Name)}
                    for alias in node.names:
                        self.assertIsNone(alias.asname)
                        self.assertIn(alias.name, defined[module])
                        self.assertIn(alias.name, used, f"{name}: {alias.name} is not used")
        seen = []
        while edges:
            ready = [name for name in edges if all(module in seen for module in edges[name])]
            self.assertTrue(ready, f"a ring of imports in {sorted(edges)}")
            for name in ready:
                del edges[name]
            seen.extend(ready)

    def test_module_level(self):
        for name, text, tree in self.each():
            for node in tree.body:
                if isinstance(node, ast.Expr):
                    self.assertIsInstance(node.value, ast.Constant)
                else:
                    self.assertIsInstance(node, (ast.ImportFrom, ast.FunctionDef, ast.ClassDef, ast.Assign))
            names = [node.name for node in tree.body if isinstance(node, (ast.FunctionDef, ast.ClassDef))]
            self.assertEqual(len(names), len(set(names)))

    def test_names(self):
        for name, text, tree in self.each():
            taken = {node.name for node in tree.body if isinstance(node, ast.ClassDef)}
            for node in tree.body:
                if isinstance(node, ast.ImportFrom):
                    taken |= {alias.name for alias in node.names}
            for node in ast.walk(tree):
                told = None
                if isinstance(node, ast.arg):
                    told = node.arg
                elif isinstance(node, ast.Name) and isinstance(node.ctx, ast.Store):
                    told = node.id
                elif isinstance(node, ast.FunctionDef) and node in tree.body:
                    told = node.name
                if told is not None and told != "_":
                    where = f"{name} {node.lineno} {told}"
                    self.assertNotIn(told, dir(builtins), where)
                    self.assertNotIn(told, BARRED, where)
                    if not isinstance(node, ast.FunctionDef):
                        self.assertNotIn(told, taken, where)
                if isinstance(node, ast.Name) and isinstance(node.ctx, ast.Load) and hasattr(builtins, node.id):
                    self.assertIn(node.id, ALLOWED_BUILTINS, f"{name} {node.lineno} {node.id}")
                if isinstance(node, ast.Name) and isinstance(node.ctx, ast.Load):
                    self.assertNotEqual(node.id, "_", f"{name} {node.lineno}")

    def test_nodes(self):
        barred = (ast.Global, ast.AsyncFunctionDef, ast.Await, ast.GeneratorExp, ast.Div,
                  ast.Starred, ast.NamedExpr, ast.Set, ast.SetComp, ast.AnnAssign, ast.With, ast.Match)
        for name, text, tree in self.each():
            for node in ast.walk(tree):
                where = f"{name} {getattr(node, 'lineno', '')}"
                self.assertNotIsInstance(node, barred, where)
                if isinstance(node, ast.Constant):
                    self.assertNotIsInstance(node.value, float, where)
                    if isinstance(node.value, str) and node.value not in docstrings(tree):
                        self.assertNotIn("%", node.value, where)
                        self.assertIsNone(BARRED_WORDS.search(node.value), where)
                if isinstance(node, ast.FunctionDef):
                    told = [ast.unparse(decorator) for decorator in node.decorator_list]
                    self.assertIn(told, ([], ["property"]), where)
                if isinstance(node, ast.Compare) and isinstance(node.ops[0], (ast.Is, ast.IsNot)):
                    self.assertIn(ast.unparse(node.comparators[0]), ("None", "True", "False"), where)
                if isinstance(node, ast.BinOp) and isinstance(node.op, ast.Pow):
                    self.assertIsInstance(node.right, ast.Constant, where)
                if isinstance(node, ast.Raise):
                    self.assertIsInstance(node.exc, ast.Call, where)
                if isinstance(node, (ast.Yield, ast.YieldFrom)):
                    self.assertEqual(name, "repairs.py", where)
                if isinstance(node, ast.Try):
                    self.assertEqual([ast.unparse(told.type) for told in node.handlers], ["VaultError"], where)
                    self.assertEqual(node.finalbody, [], where)

    def test_calls(self):
        own = set()
        for name, text, tree in self.each():
            for node in ast.walk(tree):
                if isinstance(node, ast.ClassDef):
                    own |= {method.name for method in node.body if isinstance(method, ast.FunctionDef)}
        for name, text, tree in self.each():
            parents = {child: node for node in ast.walk(tree) for child in ast.iter_child_nodes(node)}
            for node in ast.walk(tree):
                if not isinstance(node, ast.Call):
                    continue
                where = f"{name} {node.lineno}"
                if isinstance(node.func, ast.Attribute):
                    self.assertIn(node.func.attr, METHODS | own, where)
                    self.assertEqual(node.keywords, [], where)
                elif isinstance(node.func, ast.Name) and node.func.id == "set":
                    parent = parents[node]
                    self.assertTrue(isinstance(parent, ast.Call) and parent.func.id in ("len", "sorted"), where)
                if isinstance(node.func, ast.Name) and node.func.id == "zip":
                    self.assertTrue(isinstance(parents[node], (ast.For, ast.comprehension, ast.Call)), where)

    def test_what_loops_go_over_stays(self):
        for name, text, tree in self.each():
            for node in ast.walk(tree):
                if isinstance(node, ast.For):
                    over = ast.unparse(node.iter)
                    for part in node.body:
                        for told in ast.walk(part):
                            where = f"{name} {node.lineno} {over}"
                            if isinstance(told, ast.Call) and isinstance(told.func, ast.Attribute):
                                if told.func.attr in CHANGES:
                                    self.assertFalse(goes_over(node.iter, told.func.value), where)
                            if isinstance(told, ast.Subscript) and not isinstance(told.ctx, ast.Load):
                                self.assertFalse(goes_over(node.iter, told.value), where)

    def test_classes(self):
        for name, text, tree in self.each():
            for node in ast.walk(tree):
                if not isinstance(node, ast.ClassDef):
                    continue
                methods = [method.name for method in node.body if isinstance(method, ast.FunctionDef)]
                self.assertEqual(len(methods), len(set(methods)))
                stored = {told.attr for told in ast.walk(node)
                          if isinstance(told, ast.Attribute) and isinstance(told.ctx, ast.Store)}
                self.assertFalse(stored & set(methods), f"{name} {node.name}")
                for attribute in stored:
                    self.assertTrue(attribute not in BUILTIN_ATTRIBUTES or attribute in ATTRIBUTES_ALLOWED, attribute)
                for method in methods:
                    self.assertTrue(method in METHODS or method not in BUILTIN_ATTRIBUTES
                                    or method in ("__init__", "__eq__", "__len__"), method)


def docstrings(tree):
    told = []
    for node in ast.walk(tree):
        if isinstance(node, (ast.Module, ast.ClassDef, ast.FunctionDef)) and node.body:
            first = node.body[0]
            if isinstance(first, ast.Expr) and isinstance(first.value, ast.Constant):
                told.append(first.value.value)
    return told


def goes_over(iterated, changed):
    """Whether a loop over the one may go over the other."""
    told = ast.unparse(changed)
    if isinstance(iterated, ast.Call):
        if isinstance(iterated.func, ast.Name) and iterated.func.id in ("list", "range", "sorted", "tuple"):
            return False
        inner = list(iterated.args)
        if isinstance(iterated.func, ast.Attribute):
            inner.append(iterated.func.value)
        return any(goes_over(part, changed) for part in inner)
    if isinstance(iterated, (ast.IfExp, ast.BoolOp)):
        return any(ast.unparse(part) == told for part in ast.walk(iterated))
    return ast.unparse(iterated) == told


if __name__ == "__main__":
    unittest.main()
