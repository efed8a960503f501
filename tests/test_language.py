"""The form of the package: the rules of the language that a look at the code can tell."""

import ast
import builtins
import pathlib
import unittest

ROOT = pathlib.Path(__file__).resolve().parent.parent / "keepcompany"
FILES = sorted(ROOT.glob("*.py"))
LISTED = ["errors", "numbers", "boxes", "works", "curves", "stores", "keepers", "parts", "loops",
          "alone", "runaways", "whoever", "drawn", "shares", "mixtures", "takings", "told", "holes",
          "logs", "judge", "texts", "office", "desk"]
LIBRARY = {"math": {"gcd", "lcm", "isqrt", "comb", "perm", "factorial"},
           "heapq": {"heappush", "heappop", "heapify", "heapreplace", "heappushpop"},
           "itertools": {"product", "combinations", "permutations", "chain", "accumulate",
                         "pairwise", "islice", "zip_longest"}}
BUILTINS = set("""len range enumerate zip min max sum abs sorted reversed int str bool bytes list tuple
    dict set frozenset isinstance ord repr any all divmod pow Exception ValueError TypeError KeyError
    IndexError LookupError ZeroDivisionError ArithmeticError OverflowError RuntimeError
    NotImplementedError AttributeError StopIteration NotImplemented map""".split())
METHODS = set("""append clear copy count endswith extend find get index insert isalnum isalpha isdigit
    islower isspace isupper items join keys ljust lower lstrip partition pop remove replace reverse
    rfind rjust rpartition rsplit rstrip setdefault split splitlines startswith strip update upper
    values zfill bit_length""".split())
BARRED = set("""mro elements open input law version_info with_traceback add_note register attrgetter
    breakpoint builtins compile copyright credits delattr dir eval exec exit gc getattr globals
    hasattr help id importlib license locals methodcaller os quit setattr super type vars
    _cold _tuplegetter _outside _record _written_out _member_names""".split())
STARTS = ("_wall", "_pe_", "_dcw_", "_enum_", "_cm_", "_twin_re_", "_lay_", "_law_", "_stub_",
          "_sre", "__", "f_", "tb_", "co_", "gi_", "cr_", "ag_")
NEVER = (ast.AsyncFunctionDef, ast.Global, ast.Set, ast.SetComp, ast.GeneratorExp, ast.Div,
         ast.Yield, ast.YieldFrom, ast.Await, ast.NamedExpr, ast.With, ast.Import,
         ast.JoinedStr, ast.MatMult, ast.Nonlocal, ast.Delete)
ERRORS = {"Unfit", "Stuck", "CanNot", "NoPaper", "TooMany", "BadText"}
FIELDS = {"line", "first", "done", "held", "undone"}
OWN_METHODS = {"do", "undo", "redo", "edits", "twin", "box_now", "keeps", "alone", "heard"}
DOUBLE = {"__init__", "__eq__", "__len__"}
# What a value at module level is made of.
PLAIN = (ast.Constant, ast.Tuple, ast.BinOp, ast.Pow, ast.UnaryOp, ast.USub, ast.Load)


def trees():
    return [(path, ast.parse(path.read_text())) for path in FILES]


def imports_of(tree):
    return [node for node in tree.body if isinstance(node, ast.ImportFrom)]


def bound_in(function):
    """The names of parameters and local variables of function."""
    names = {own.arg for own in ast.walk(function) if isinstance(own, ast.arg)}
    for node in ast.walk(function):
        if isinstance(node, ast.Name) and isinstance(node.ctx, ast.Store):
            names.add(node.id)
    return names


class LanguageTests(unittest.TestCase):

    def test_files_lines_and_signs(self):
        for path in FILES:
            text = path.read_text()
            self.assertTrue(all(sign == "\n" or " " <= sign <= "~" for sign in text), path)
            lines = text.split("\n")
            self.assertLessEqual(len(lines), 400, path)
            self.assertLessEqual(max(len(line) for line in lines), 120, path)
        self.assertEqual([own.name for own in ROOT.iterdir() if own.suffix != ".py"
                          and own.name != "__pycache__"], [])

    def test_functions_have_at_most_40_lines(self):
        for path, tree in trees():
            for node in ast.walk(tree):
                if isinstance(node, ast.FunctionDef):
                    self.assertLessEqual(node.end_lineno - node.lineno + 1, 40, (path, node.name))
                    self.assertEqual(node.decorator_list, [])

    def test_module_level(self):
        for path, tree in trees():
            self.assertIsNotNone(ast.get_docstring(tree), path)
            names = []
            for node in tree.body[1:]:
                self.assertIsInstance(node, (ast.ImportFrom, ast.FunctionDef, ast.ClassDef, ast.Assign))
                if isinstance(node, ast.Assign):
                    self.assertEqual(len(node.targets), 1)
                    for own in ast.walk(node.value):
                        self.assertIsInstance(own, PLAIN, path)
                    names.append(node.targets[0].id)
                elif isinstance(node, ast.ImportFrom):
                    names.extend(own.name for own in node.names)
                else:
                    names.append(node.name)
            self.assertEqual(len(names), len(set(names)), path)

    def test_imports(self):
        for path, tree in trees():
            used = {node.id for node in ast.walk(tree) if isinstance(node, ast.Name)}
            for node in imports_of(tree):
                self.assertEqual(node.level, 0)
                top, _, name = node.module.partition(".")
                for own in node.names:
                    self.assertIsNone(own.asname)
                    self.assertIn(own.name, used, path)
                    if top == "keepcompany":
                        source = ast.parse((ROOT / (name + ".py")).read_text())
                        here = [one.name for one in source.body if hasattr(one, "name")]
                        here += [one.targets[0].id for one in source.body if isinstance(one, ast.Assign)]
                        self.assertIn(own.name, here, path)
                    else:
                        self.assertIn(own.name, LIBRARY[node.module])

    def test_order_of_files(self):
        draws = {path.stem: [node.module.partition(".")[2] for node in imports_of(tree)
                             if node.module.startswith("keepcompany.")] for path, tree in trees()}

        def reached(name, seen):
            for own in draws[name]:
                if own not in seen:
                    seen.add(own)
                    reached(own, seen)
            return seen

        for name in draws:
            self.assertNotIn(name, reached(name, set()))
            if name in LISTED:
                for own in reached(name, set()):
                    if own in LISTED:
                        self.assertLess(LISTED.index(own), LISTED.index(name), (name, own))

    def test_what_is_not_used(self):
        for path, tree in trees():
            for node in ast.walk(tree):
                self.assertNotIsInstance(node, NEVER, (path, getattr(node, "lineno", 0)))
                if isinstance(node, ast.Constant):
                    self.assertNotIsInstance(node.value, (float, complex, bytes))
                    if isinstance(node.value, str):
                        self.assertNotIn("%", node.value)
                if isinstance(node, ast.BinOp) and isinstance(node.op, ast.Pow):
                    self.assertIsInstance(node.right, ast.Constant)
                if isinstance(node, ast.Call):
                    self.assertFalse(any(isinstance(own, ast.Starred) for own in node.args))
                if isinstance(node, ast.Try):
                    self.assertEqual(node.finalbody, [])
                    self.assertTrue(all(own.type.id in ERRORS for own in node.handlers), path)

    def test_names(self):
        for path, tree in trees():
            own = {node.name for node in tree.body if hasattr(node, "name")}
            brought = {one.name for node in imports_of(tree) for one in node.names}
            for node in ast.walk(tree):
                if isinstance(node, ast.Attribute):
                    self.assertIn(node.attr, METHODS | FIELDS | OWN_METHODS | {"__init__"}, path)
                if isinstance(node, ast.Name) and isinstance(node.ctx, ast.Load):
                    if node.id in dir(builtins):
                        self.assertIn(node.id, BUILTINS, path)
                if isinstance(node, ast.FunctionDef):
                    names = bound_in(node)
                    self.assertEqual(names & (brought | own), set(), (path, node.name))
                    for name in (names | {node.name}) - DOUBLE:
                        self.assertNotIn(name, BARRED | set(dir(builtins)), (path, node.name))
                        self.assertFalse(name.startswith(STARTS), (path, name))

    def test_classes(self):
        for path, tree in trees():
            for node in tree.body:
                if not isinstance(node, ast.ClassDef):
                    continue
                methods = [own for own in node.body if isinstance(own, ast.FunctionDef)]
                self.assertTrue(all(isinstance(own, ast.FunctionDef) for own in node.body[1:]), path)
                names = [own.name for own in methods]
                self.assertEqual(len(names), len(set(names)), path)
                self.assertLessEqual({own for own in names if own.startswith("_")}, DOUBLE)
                stored = {own.attr for own in ast.walk(node)
                          if isinstance(own, ast.Attribute) and isinstance(own.ctx, ast.Store)}
                self.assertLessEqual(stored, FIELDS)
                self.assertEqual(stored & set(names), set(), path)
                for own in methods:
                    if own.name in ("__eq__", "__len__"):
                        self.assertEqual(len(own.body), 1)
                        self.assertIsInstance(own.body[0], ast.Return)

    def test_no_sort_in_place_beside_a_class_that_compares(self):
        for path, tree in trees():
            for node in ast.walk(tree):
                if isinstance(node, ast.Attribute):
                    self.assertNotEqual(node.attr, "sort", path)

    def test_loops_leave_alone_what_they_go_over(self):
        for path, tree in trees():
            for node in ast.walk(tree):
                if isinstance(node, ast.For):
                    over = {one.id for one in ast.walk(node.iter) if isinstance(one, ast.Name)}
                    if isinstance(node.iter, ast.Call) and node.iter.func.id == "range":
                        continue
                    for one in ast.walk(ast.Module(node.body, [])):
                        if isinstance(one, ast.Subscript) and isinstance(one.ctx, ast.Store):
                            self.assertNotIn(getattr(one.value, "id", None), over, (path, node.lineno))
                        if isinstance(one, ast.Call) and isinstance(one.func, ast.Attribute):
                            self.assertNotIn(getattr(one.func.value, "id", None), over)


if __name__ == "__main__":
    unittest.main()
