"""Some of the rules of the language that the package keeps to, as far as they are quickly seen."""

import ast
import builtins
import unittest
from pathlib import Path

PACKAGE = Path(__file__).resolve().parent.parent / "taprows"
BUILTINS = set("""len range enumerate zip min max sum abs sorted reversed int str bool list tuple dict set isinstance ord repr
any all divmod iter next map super""".split())
LIBRARY = {"math": {"gcd", "lcm", "isqrt", "comb", "perm", "factorial"},
           "heapq": {"heappush", "heappop", "heapify", "heapreplace", "heappushpop"},
           "itertools": {"product", "combinations", "permutations"}}
METHODS = set("""append clear copy count endswith extend find get index insert isalnum isalpha isdigit islower isspace isupper
items join keys ljust lower lstrip partition pop remove replace reverse rfind rjust rpartition rsplit rstrip setdefault split
splitlines startswith strip update upper values zfill bit_length add discard sort __init__""".split())
BARRED = {"register", "mro", "elements", "open", "input", "law", "type", "eval", "exec", "getattr", "setattr", "vars", "id",
          "dir", "help", "globals", "sys", "os", "compile", "exit", "quit"}
NODES = (ast.AsyncFunctionDef, ast.Global, ast.Await, ast.AnnAssign, ast.TryStar)


def files():
    return sorted(PACKAGE.rglob("*.py"))


class Language(unittest.TestCase):

    def test_files(self):
        for path in files():
            data = path.read_bytes()
            self.assertTrue(all(32 <= sign <= 126 or sign == 10 for sign in data), path)
            lines = data.decode("ascii").split("\n")
            self.assertLessEqual(len(lines), 400, path)
            self.assertLessEqual(max(map(len, lines)), 120, path)
        others = [path for path in PACKAGE.rglob("*") if path.is_file() and path.suffix not in (".py", ".pyc")]
        self.assertEqual(others, [])

    def test_nodes(self):
        for path in files():
            tree = ast.parse(path.read_text())
            own = self.own_names(tree)
            for node in ast.walk(tree):
                self.check(path, node, own)

    def own_names(self, tree):
        names = set()
        for node in ast.walk(tree):
            if isinstance(node, (ast.FunctionDef, ast.ClassDef)):
                names.add(node.name)
            elif isinstance(node, ast.ImportFrom):
                names.update(alias.name for alias in node.names)
        return names

    def check(self, path, node, own):
        where = f"{path.name}:{getattr(node, 'lineno', 0)}"
        self.assertNotIsInstance(node, NODES, where)
        if isinstance(node, ast.FunctionDef):
            self.assertLessEqual(node.end_lineno - node.lineno + 1, 40, where)
        elif isinstance(node, ast.Import):
            self.fail(where)
        elif isinstance(node, ast.ImportFrom):
            allowed = LIBRARY.get(node.module)
            self.assertEqual(node.level, 0, where)
            self.assertTrue(allowed or node.module.startswith("taprows."), where)
            self.assertTrue(allowed is None or {alias.name for alias in node.names} <= allowed, where)
            self.assertFalse(any(alias.asname or alias.name == "*" for alias in node.names), where)
        elif isinstance(node, ast.Call):
            self.check_call(where, node, own)
        elif isinstance(node, ast.BinOp):
            self.assertNotIsInstance(node.op, (ast.Div, ast.MatMult), where)
            if isinstance(node.op, ast.Pow):
                self.assertIsInstance(node.right, ast.Constant, where)
                self.assertLessEqual(node.right.value, 64, where)
        elif isinstance(node, ast.Constant):
            self.assertNotIsInstance(node.value, (float, complex), where)
            self.assertFalse(isinstance(node.value, str) and "%" in node.value, where)
        elif isinstance(node, (ast.Name, ast.arg)):
            name = node.id if isinstance(node, ast.Name) else node.arg
            self.assertNotIn(name, BARRED, where)
            self.assertFalse(name.startswith("__"), where)

    def check_call(self, where, node, own):
        if isinstance(node.func, ast.Name):
            self.assertIn(node.func.id, BUILTINS | own, where)
        elif isinstance(node.func, ast.Attribute):
            self.assertIn(node.func.attr, METHODS | self.package_methods(), where)

    def package_methods(self):
        trees = [ast.parse(path.read_text()) for path in files()]
        classes = [node for tree in trees for node in tree.body if isinstance(node, ast.ClassDef)]
        return {part.name for node in classes for part in node.body if isinstance(part, ast.FunctionDef)}

    def test_local_names(self):
        for path in files():
            tree = ast.parse(path.read_text())
            taken = {alias.name for node in tree.body if isinstance(node, ast.ImportFrom) for alias in node.names}
            taken |= {node.name for node in tree.body if isinstance(node, ast.ClassDef)}
            for node in ast.walk(tree):
                if isinstance(node, ast.arg):
                    name = node.arg
                elif isinstance(node, ast.Name) and isinstance(node.ctx, ast.Store):
                    name = node.id
                elif isinstance(node, (ast.FunctionDef, ast.ClassDef)):
                    name = None if node in tree.body or node.name.startswith("__") else node.name
                    self.assertFalse(node in tree.body and hasattr(builtins, node.name), node.name)
                else:
                    continue
                self.assertNotIn(name, taken, f"{path.name}:{node.lineno}")
                self.assertFalse(name and hasattr(builtins, name), f"{path.name}:{node.lineno}")

    def test_no_circles_of_imports(self):
        needs = {}
        for path in files():
            found = [node for node in ast.walk(ast.parse(path.read_text())) if isinstance(node, ast.ImportFrom)]
            needs[f"taprows.{path.stem}"] = {node.module for node in found if node.module.startswith("taprows.")}
        while needs:
            free = [name for name in needs if not needs[name]]
            self.assertTrue(free, needs)
            needs = {name: needs[name] - set(free) for name in needs if name not in free}


if __name__ == "__main__":
    unittest.main()
