"""The rules of LANGUAGE.md that can be told from the files alone, and the interface that DOC.md lists."""

import ast
import importlib
import pathlib
import re
import unittest

import tracebounds

FOLDER = pathlib.Path(tracebounds.__file__).parent
FILES = sorted(FOLDER.glob("*.py"))
# L2: what may be imported besides the package's own names.
LIBRARY = {
    "heapq": {"heappush", "heappop", "heapify", "heapreplace", "heappushpop"},
    "math": {"gcd", "lcm", "isqrt", "comb", "perm", "factorial"},
    "itertools": {"product", "combinations", "permutations", "chain", "accumulate", "pairwise", "islice",
                  "zip_longest"},
    "collections": {"defaultdict"},
    "__future__": {"annotations"},
}
# L8: the builtins that may be used.
BUILTINS = set(
    "len range enumerate zip min max sum abs sorted reversed int str bool bytes list tuple dict set frozenset "
    "isinstance ord repr any all divmod pow getattr hasattr setattr iter next map super property staticmethod "
    "classmethod Exception ValueError TypeError KeyError IndexError LookupError ZeroDivisionError ArithmeticError "
    "OverflowError RuntimeError NotImplementedError AttributeError StopIteration NotImplemented object".split()
)
# L17: words that occur in no file, but for comments and docstrings.
BARRED = set(
    "type typing typing_extensions enum Enum IntEnum StrEnum Flag IntFlag Generic Protocol ABC ABCMeta namedtuple "
    "NamedTuple TypedDict TYPE_CHECKING abstractmethod register mro elements open input law".split()
)
DOUBLE = set(
    "init eq repr str len enter exit call iter lt le gt ge ne add sub mul floordiv mod pow and or xor lshift rshift "
    "neg pos invert abs bool contains getitem setitem".split()
)
# What DOC.md lists for each file that is here: functions with their parameters, and classes with their methods.
INTERFACE = {
    "works": {
        "Works": {
            "__init__": ["self", "machines", "cleanings", "stuffs", "products"],
            "read": ["text"],
            "machines": ["self"], "cleanings": ["self"], "stuffs": ["self"], "products": ["self"],
            "hold": ["self", "machine"], "keep": ["self", "cleaning"], "limit": ["self", "stuff"],
            "content": ["self", "product", "stuff"], "declares": ["self", "product", "stuff"],
            "__str__": ["self"], "__repr__": ["self"], "__eq__": ["self", "other"],
        },
    },
    "plans": {
        "Plan": {
            "__init__": ["self", "works", "deeds"],
            "read": ["works", "text"],
            "works": ["self"], "deeds": ["self"], "lots": ["self"],
            "without": ["self", "index"],
            "__len__": ["self"], "__bool__": ["self"], "__str__": ["self"], "__eq__": ["self", "other"],
        },
    },
    "amounts": {
        "greatest": ["plan", "lot", "stuff"], "least": ["plan", "lot", "stuff"], "weights": ["plan", "lot", "most"],
        "verdict": ["plan", "lot", "stuff"], "idle": ["plan"],
    },
    "pairs": {
        "corners": ["plan", "lot", "other", "stuff"],
        "measured": ["plan", "lot", "other", "stuff", "low", "high"],
        "best_test": ["plan", "lot", "stuff"],
    },
    "rules": {
        "Rule": {
            "__init__": ["self", "works", "machine", "table"],
            "read": ["works", "text"],
            "works": ["self"], "machine": ["self"], "table": ["self"],
            "cleaning": ["self", "first", "second"], "factor": ["self", "first", "second"],
            "changed": ["self", "first", "second", "cleaning"],
            "__str__": ["self"], "__eq__": ["self", "other"],
        },
    },
    "ever": {
        "residue": ["rule", "row", "product", "stuff"], "ever": ["rule", "product", "stuff"],
        "is_reached": ["rule", "product", "stuff"], "shown": ["rule", "product", "stuff"],
        "lot_ever": ["rule", "product", "stuff"], "first_above": ["rule"],
    },
    "quotients": {"quotient": ["rule", "other"], "farthest": ["rule", "other"]},
    "mending": {
        "easier": ["rule"], "weakest": ["rule", "cleaning"], "mends": ["rule", "changes"],
        "best_order": ["rule", "ordered", "stuff"],
    },
    "books": {
        "Book": {
            "__init__": ["self", "works"],
            "works": ["self"], "names": ["self"], "claims": ["self"], "changes": ["self"],
            "drop": ["self", "name"], "claim": ["self", "claim"], "lift": ["self", "index"], "undo": ["self"],
            "do_all": ["self", "*deeds", "watch="], "trial": ["self"], "tried": ["self", "action"],
            "__setitem__": ["self", "name", "part"], "__getitem__": ["self", "name"], "__contains__": ["self", "value"],
            "__len__": ["self"], "__eq__": ["self", "other"],
        },
        "Trial": {
            "__enter__": ["self"], "__exit__": ["self", "kind", "value", "trace"], "__eq__": ["self", "other"],
        },
    },
    "checker": {"accepts": ["claim", "certificate"]},
    "certificates": {
        "certify_most": ["plan", "lot", "stuff"], "certify_reached": ["plan", "lot", "stuff"],
        "certify_never": ["rule", "stuff"], "certify_above": ["rule", "product", "stuff", "number"],
    },
    "console": {
        "Console": {"__init__": ["self", "works"], "say": ["self", "line"], "__eq__": ["self", "other"]},
    },
    "errors": {
        name: {"__init__": ["self", attribute]}
        for attribute, names in (
            ("given", "InvalidText InvalidLot InvalidBound InvalidName InvalidClaim InvalidIndex InvalidOther "
                      "InvalidLine NotWorks NotAPlan NotARule NotAPart UnknownName"),
            ("index", "InvalidMachines InvalidCleanings InvalidStuffs InvalidProducts InvalidDeeds InvalidTable "
                      "InvalidRow InvalidChanges InvalidOrdered Broken InUse"),
        )
        for name in names.split()
    },
}


def trees():
    return [(path, ast.parse(path.read_text("utf-8"))) for path in FILES]


def walk_all():
    for path, tree in trees():
        for node in ast.walk(tree):
            yield path, node


def parameters(function):
    """The names of the parameters, with a star for those that take the rest, and = for those by name alone."""
    told = function.args
    rest = [f"*{told.vararg.arg}"] if told.vararg else []
    return [one.arg for one in told.args] + rest + [f"{one.arg}=" for one in told.kwonlyargs]


class Files(unittest.TestCase):
    def test_nothing_else_in_the_folder(self):
        self.assertIn("__init__.py", [path.name for path in FILES])
        for path in FOLDER.iterdir():
            if path.name != "__pycache__":
                self.assertRegex(path.name, r"\A[a-z_][a-z0-9_]*\.py\Z")

    def test_characters_and_lengths(self):
        for path in FILES:
            text = path.read_bytes().decode("utf-8")
            self.assertRegex(text, r"\A[ -~\n]*\Z", path.name)
            self.assertTrue(text.endswith("\n") and not text.endswith("\n\n"), path.name)
            self.assertLessEqual(text.count("\n"), 399, path.name)
            for line in text.split("\n"):
                self.assertLessEqual(len(line), 120, (path.name, line))
                self.assertEqual(line, line.rstrip(), path.name)

    def test_functions_are_short(self):
        for path, node in walk_all():
            if isinstance(node, ast.FunctionDef):
                self.assertLessEqual(node.end_lineno - node.lineno + 1, 40, (path.name, node.name))


class Imports(unittest.TestCase):
    def own(self, tree):
        """The names that a file imports, each with the file of this package that it is imported from."""
        found = []
        for node in tree.body:
            if isinstance(node, ast.ImportFrom) and node.module.startswith("tracebounds."):
                found += [(node.module.split(".")[1], one.name) for one in node.names]
        return found

    def test_forms(self):
        for path, tree in trees():
            for node in ast.walk(tree):
                self.assertNotIsInstance(node, ast.Import, path.name)
                if isinstance(node, ast.ImportFrom):
                    self.assertIn(node, tree.body, path.name)
                    self.assertEqual(node.level, 0, path.name)
                    self.assertTrue(all(one.asname is None and one.name != "*" for one in node.names), path.name)
                    if not re.match(r"tracebounds\.[a-z]", node.module):
                        self.assertLessEqual({one.name for one in node.names}, LIBRARY[node.module], path.name)

    def test_stand_at_the_top(self):
        for path, tree in trees():
            kinds = [isinstance(node, ast.ImportFrom) for node in tree.body if not isinstance(node, ast.Expr)]
            self.assertEqual(kinds, sorted(kinds, reverse=True), path.name)

    def test_name_the_file_that_defines_the_name(self):
        defined = {}
        for path, tree in trees():
            names = {node.name for node in tree.body if isinstance(node, (ast.FunctionDef, ast.ClassDef))}
            names |= {node.targets[0].id for node in tree.body if isinstance(node, ast.Assign)}
            defined[path.stem] = names
        for path, tree in trees():
            for file, name in self.own(tree):
                self.assertIn(name, defined[file], path.name)

    def test_no_two_files_import_from_each_other(self):
        left = {path.stem: {file for file, _ in self.own(tree)} for path, tree in trees()}
        while left:
            free = [file for file, needed in left.items() if not needed & set(left)]
            self.assertTrue(free, left)
            for file in free:
                del left[file]


class Words(unittest.TestCase):
    def test_module_level(self):
        """L3, L15: a docstring, imports, functions, classes, and each name once with a plain value."""
        for path, tree in trees():
            names = []
            for at, node in enumerate(tree.body):
                if isinstance(node, ast.Expr):
                    self.assertTrue(at == 0 and isinstance(node.value, ast.Constant), path.name)
                elif isinstance(node, ast.Assign):
                    self.assertTrue(len(node.targets) == 1 and isinstance(node.targets[0], ast.Name), path.name)
                    self.assertFalse([one for one in ast.walk(node.value) if isinstance(one, ast.Call)], path.name)
                    names.append(node.targets[0].id)
                elif isinstance(node, ast.ImportFrom):
                    names += [one.name for one in node.names]
                else:
                    self.assertIsInstance(node, (ast.FunctionDef, ast.ClassDef), path.name)
                    names.append(node.name)
            self.assertEqual(len(names), len(set(names)), path.name)

    def test_decorators(self):
        for path, node in walk_all():
            if isinstance(node, (ast.FunctionDef, ast.ClassDef)):
                for one in node.decorator_list:
                    self.assertIn(ast.unparse(one).split(".")[-1], ("property", "staticmethod", "classmethod", "setter"))
                    self.assertIsInstance(node, ast.FunctionDef, path.name)

    def test_statements_and_expressions(self):
        barred = (ast.Global, ast.AsyncFunctionDef, ast.Await, ast.AsyncFor, ast.AsyncWith, ast.Div, ast.MatMult)
        for path, node in walk_all():
            self.assertNotIsInstance(node, barred, path.name)
            if isinstance(node, ast.Constant):
                self.assertNotIsInstance(node.value, (float, complex), path.name)
                if isinstance(node.value, str):
                    self.assertNotIn("%", node.value, path.name)

    def test_all_and_any_take_lists(self):
        """L7: where a class has an order or equality of its own, no generator expressions stand in these."""
        for path, node in walk_all():
            if isinstance(node, ast.Call) and isinstance(node.func, ast.Name):
                if node.func.id in ("any", "all", "min", "max", "sum", "sorted"):
                    self.assertFalse([one for one in node.args if isinstance(one, ast.GeneratorExp)], path.name)

    def test_names(self):
        """L8, L12, L15, L17: no other builtins, plain names, none of them a builtin's or an import's."""
        every = set(dir(__builtins__) if not isinstance(__builtins__, dict) else __builtins__)
        for path, tree in trees():
            imported = {one.name for node in tree.body if isinstance(node, ast.ImportFrom) for one in node.names}
            for node in ast.walk(tree):
                if isinstance(node, ast.Name):
                    self.assertFalse(node.id in every - BUILTINS, (path.name, node.id))
                    if isinstance(node.ctx, ast.Store):
                        self.assertNotIn(node.id, every | imported, path.name)
                if isinstance(node, ast.arg):
                    self.assertNotIn(node.arg, every | imported, path.name)
                name = getattr(node, "id", None) or getattr(node, "attr", None) or getattr(node, "name", None)
                if isinstance(name, str) and not (name.startswith("__") and name[2:-2] in DOUBLE):
                    self.assertRegex(name, r"\A_?[A-Za-z][A-Za-z0-9_.]*\Z|\A_\Z|\A__name__\Z|\A__class__\Z")
                    self.assertNotIn(name, BARRED, path.name)
                if isinstance(node, ast.FunctionDef) and node.name.startswith("__"):
                    self.assertIn(node.name[2:-2], DOUBLE, path.name)

    def test_is_and_exponents(self):
        """L20, L27: `is` stands beside None, True or False; an exponent is a number."""
        for path, node in walk_all():
            if isinstance(node, ast.Compare):
                for sign, right in zip(node.ops, node.comparators):
                    if isinstance(sign, (ast.Is, ast.IsNot)):
                        self.assertIn(ast.unparse(right), ("None", "True", "False"), path.name)
            if isinstance(node, ast.BinOp) and isinstance(node.op, ast.Pow):
                self.assertIsInstance(node.right, ast.Constant, path.name)

    def test_iterators_are_not_kept(self):
        """L23: what is iterated once is not assigned, and not given to `set`, `len` or `reversed`."""
        once = ("zip", "enumerate", "reversed", "range", "map")
        for path, node in walk_all():
            inside = [node.value] if isinstance(node, ast.Assign) else []
            if isinstance(node, ast.Call) and ast.unparse(node.func) in ("set", "len", "reversed"):
                inside = node.args
            for one in inside:
                self.assertFalse(isinstance(one, ast.Call) and ast.unparse(one.func) in once, path.name)

    def test_rows_where_a_with_statement_ends(self):
        """L6 With, no wider than is needed: `net = self.net` once, else attributes of these two are handed on."""
        found = [node for _, node in walk_all() if isinstance(node, ast.FunctionDef) and node.name == "__exit__"]
        self.assertTrue(found)
        for node in found:
            rows = [ast.unparse(row) for row in node.body]
            kept = [row for row in rows if re.fullmatch(r"[a-z]+ = self\._?[a-z]+", row)]
            self.assertLessEqual(len(kept), 1)
            names = "|".join(["self"] + [row.split(" ")[0] for row in kept])
            for row in rows:
                if row not in kept:
                    self.assertRegex(row, rf"\A({names})(\._?[a-z]+)+ = ({names})(\._?[a-z]+)+\Z")

    def test_sets_are_not_iterated(self):
        """L24, L23: no set stands behind the `in` of a loop or a comprehension."""
        for path, node in walk_all():
            if isinstance(node, (ast.For, ast.comprehension)):
                self.assertNotIsInstance(node.iter, (ast.Set, ast.SetComp), path.name)


class Interface(unittest.TestCase):
    def test_all_is_defined_where_it_is_listed(self):
        for file, listed in INTERFACE.items():
            tree = ast.parse((FOLDER / (file + ".py")).read_text("utf-8"))
            defined = {node.name: node for node in tree.body if isinstance(node, (ast.FunctionDef, ast.ClassDef))}
            for name, methods in listed.items():
                if isinstance(methods, list):
                    self.assertIsInstance(defined[name], ast.FunctionDef, name)
                    self.assertEqual(parameters(defined[name]), methods, name)
                    continue
                found = {one.name: parameters(one) for one in defined[name].body if isinstance(one, ast.FunctionDef)}
                for method, told in methods.items():
                    self.assertEqual(found[method], told, (name, method))

    def test_all_can_be_imported(self):
        for path in FILES:
            if path.stem != "__init__":
                importlib.import_module("tracebounds." + path.stem)


if __name__ == "__main__":
    unittest.main()
