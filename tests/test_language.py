"""Checks those rules of the language of the package that can be seen row by row."""

import ast
import builtins
import re
import unittest
from pathlib import Path

FOLDER = Path(__file__).resolve().parent.parent / "leastreads"
FILES = sorted(path for path in FOLDER.rglob("*") if "__pycache__" not in path.parts)
SOURCES = {path.stem: path.read_bytes().decode() for path in FILES if path.suffix == ".py"}
TREES = {name: ast.parse(source) for name, source in SOURCES.items()}

LIBRARY = {
    "heapq": "heappush heappop heapify heapreplace heappushpop".split(),
    "math": "gcd lcm isqrt comb perm factorial".split(),
    "__future__": ["annotations"],
}
BUILTINS = (
    "len range enumerate zip min max sum abs sorted reversed int str bool list tuple dict set isinstance ord repr any "
    "all divmod map iter next super property staticmethod classmethod Exception ValueError TypeError KeyError "
    "IndexError LookupError ZeroDivisionError ArithmeticError OverflowError RuntimeError NotImplementedError "
    "AttributeError StopIteration NotImplemented"
).split()
METHODS = (
    "append clear copy count endswith extend find get index insert isalnum isalpha isdigit islower isspace isupper "
    "items join keys ljust lower lstrip partition pop remove replace reverse rfind rjust rpartition rsplit rstrip "
    "setdefault split splitlines startswith strip update upper values zfill bit_length add discard isascii isdecimal"
).split()
NOWHERE = (
    "type typing typing_extensions enum Enum IntEnum StrEnum Flag IntFlag Generic Protocol ABC ABCMeta namedtuple "
    "NamedTuple TypedDict TYPE_CHECKING abstractmethod register mro elements open input law version_info "
    "with_traceback add_note"
).split()
NOT_NAMED = (
    "attrgetter breakpoint builtins compile copyright credits delattr dir eval exec exit gc getattr globals hasattr "
    "help id importlib license locals methodcaller os quit setattr vars sys"
).split()
# A shell adds `_` to them.
BUILT_IN = set(dir(builtins)) - {"_"}
CHANGING = "append clear extend insert pop remove reverse setdefault update sort add discard".split()
STATEMENTS = (
    ast.Assign, ast.AugAssign, ast.If, ast.While, ast.For, ast.Return, ast.Break, ast.Continue, ast.Pass, ast.Raise,
    ast.Assert, ast.Delete, ast.Nonlocal, ast.Match, ast.With, ast.Try, ast.Expr, ast.FunctionDef, ast.ClassDef,
    ast.ImportFrom,
)  # fmt: skip
ITERATING = "list tuple dict sorted sum min max any all enumerate zip".split()
AT_ONCE = "zip enumerate reversed range items keys values map".split()


def nodes(kinds):
    """Return the list of (file, node) of all nodes of these kinds."""
    return [(name, node) for name, tree in TREES.items() for node in ast.walk(tree) if isinstance(node, kinds)]


def places(found):
    """Return where these nodes stand, to be shown."""
    return [f"{name}.py:{node.lineno}" for name, node in found]


def bound_names():
    """Return the list of (file, node, name) of everything that gets a name but attributes and methods."""
    methods = {id(row) for _, node in nodes(ast.ClassDef) for row in node.body}
    rows = [(name, node, node.id) for name, node in nodes(ast.Name) if not isinstance(node.ctx, ast.Load)]
    rows += [(name, node, node.arg) for name, node in nodes(ast.arg)]
    defined = nodes((ast.FunctionDef, ast.ClassDef))
    rows += [(name, node, node.name) for name, node in defined if id(node) not in methods]
    return rows


def parents(tree):
    """Return the dict from the id of each node to the node around it."""
    return {id(child): node for node in ast.walk(tree) for child in ast.iter_child_nodes(node)}


def is_iterated(node, around):
    """Return whether a call stands where it is iterated at once."""
    if isinstance(around, (ast.For, ast.comprehension)):
        return around.iter is node
    if isinstance(around, ast.Call) and isinstance(around.func, ast.Name):
        return around.func.id in ITERATING
    if isinstance(around, ast.Call) and isinstance(around.func, ast.Attribute):
        return around.func.attr == "join"
    return isinstance(around, ast.YieldFrom)


def defined_by_name():
    """Return the dict from each name to all functions, methods and constructors that a call of it can mean."""
    found = {}
    for tree in TREES.values():
        for node in tree.body:
            rows = [node] if isinstance(node, ast.FunctionDef) else []
            if isinstance(node, ast.ClassDef):
                methods = [row for row in node.body if isinstance(row, ast.FunctionDef)]
                found.setdefault(node.name, []).extend(row for row in methods if row.name == "__init__")
                rows = [row for row in methods if row.name != "__init__"]
            for row in rows:
                found.setdefault(row.name, []).append(row)
    return found


def run_by_signs_and_properties():
    """Return the list of all functions that operators, comparisons, lens and properties run, by the names they call."""
    found = defined_by_name()
    fresh = [row for rows in found.values() for row in rows if row.name not in ("__init__", "__call__", "__enter__", "__exit__")
             and (row.name.startswith("__") or "property" in map(ast.unparse, row.decorator_list))]  # fmt: skip
    told = []
    while fresh:
        node = fresh.pop()
        if node not in told:
            told.append(node)
            for call in ast.walk(node):
                if isinstance(call, ast.Call):
                    fresh += found.get(ast.unparse(call.func).rpartition(".")[2], [])
    return told


def own_lists(node):
    """Return the names that a function assigns nothing but lists that it creates itself."""
    rows = [row for row in ast.walk(node) if isinstance(row, ast.Assign)]
    names = {target.id for row in rows for target in row.targets if isinstance(target, ast.Name)}
    other = {target.id for row in rows for target in row.targets
             if isinstance(target, ast.Name) and not isinstance(row.value, (ast.List, ast.ListComp))}  # fmt: skip
    return names - other


class LanguageTest(unittest.TestCase):
    def none(self, found):
        self.assertEqual(places(found), [])

    def test_files(self):
        self.assertTrue(TREES)
        self.assertTrue(all(path.parent == FOLDER for path in FILES))
        for path in FILES:
            self.assertRegex(path.name, r"^[a-z0-9_]+\.py$")
            self.assertNotIn(path.stem, [*dir(builtins), "heapq", "math", "itertools"])

    def test_lines_and_characters(self):
        for name, source in SOURCES.items():
            rows = source.split("\n")
            self.assertLessEqual(len(rows) - 1, 399, name)
            self.assertLessEqual(max(map(len, rows)), 120, name)
            self.assertTrue(all(char == "\n" or " " <= char <= "~" for char in source), name)
            self.assertNotRegex(source, r"_wall|_WallAttr|\(type\)|Meta|metaclass=")

    def test_functions_are_small(self):
        self.none([(n, node) for n, node in nodes(ast.FunctionDef) if node.end_lineno - node.lineno >= 40])

    def test_statements(self):
        self.none([(n, node) for n, node in nodes(ast.stmt) if not isinstance(node, STATEMENTS)])
        self.none(nodes(ast.Await))
        self.none([(n, node) for n, node in nodes((ast.BinOp, ast.AugAssign)) if isinstance(node.op, ast.Div)])

    def test_generator_expressions(self):
        for name, tree in TREES.items():
            around = parents(tree)
            for node in ast.walk(tree):
                if isinstance(node, ast.GeneratorExp):
                    told = ast.unparse(around[id(node)].func).rpartition(".")[2]
                    self.assertIn(told, ["list", "tuple", "dict", "join"], f"{name}:{node.lineno}")

    def test_module_level(self):
        for name, tree in TREES.items():
            for place, node in enumerate(tree.body):
                if isinstance(node, ast.Expr):
                    self.assertEqual(place, 0, f"{name}:{node.lineno}")
                    self.assertIsInstance(node.value.value, str)
                elif isinstance(node, ast.Assign):
                    self.assertTrue(len(node.targets) == 1 and isinstance(node.targets[0], ast.Name))
                else:
                    self.assertIsInstance(node, (ast.ImportFrom, ast.FunctionDef, ast.ClassDef))

    def test_imports_name_the_defining_file(self):
        defined = {
            name: [node.name for node in tree.body if isinstance(node, (ast.FunctionDef, ast.ClassDef))]
            + [target.id for node in tree.body if isinstance(node, ast.Assign) for target in node.targets]
            for name, tree in TREES.items()
        }
        for name, node in nodes(ast.ImportFrom):
            self.assertIn(node, TREES[name].body)
            folder, _, module = node.module.rpartition(".")
            known = defined[module] if folder == "leastreads" else LIBRARY[node.module]
            for item in node.names:
                self.assertIn(item.name, known, f"{name} from {module}")
                self.assertIsNone(item.asname)

    def test_no_two_files_import_from_each_other(self):
        left = {name: set() for name in TREES}
        for name, node in nodes(ast.ImportFrom):
            if node.module.startswith("leastreads."):
                left[name].add(node.module.rpartition(".")[2])
        while left:
            free = [name for name in left if not left[name] & set(left)]
            self.assertTrue(free, f"a circle within {sorted(left)}")
            left = {name: left[name] for name in left if name not in free}

    def test_all_that_is_imported_is_used_and_no_name_is_given_twice(self):
        for name, tree in TREES.items():
            imported = [item.name for node in tree.body if isinstance(node, ast.ImportFrom) for item in node.names]
            used = [node.id for node in ast.walk(tree) if isinstance(node, ast.Name)]
            self.assertEqual([item for item in imported if item not in used], [], name)
            classes = [node.name for node in tree.body if isinstance(node, ast.ClassDef)]
            bound = [told for file, node, told in bound_names() if file == name and node not in tree.body]
            self.assertEqual([told for told in bound if told in imported + classes], [], name)
            top = imported + [node.name for node in tree.body if hasattr(node, "name")]
            self.assertEqual(len(top), len(set(top)), name)

    def test_builtins(self):
        used = [(n, node) for n, node in nodes(ast.Name) if node.id in BUILT_IN]
        self.none([(n, node) for n, node in used if node.id not in BUILTINS])
        self.none([(n, node) for n, node, told in bound_names() if told in BUILT_IN])

    def test_decorators_and_defaults(self):
        for name, node in nodes(ast.FunctionDef):
            for item in node.decorator_list:
                self.assertIn(ast.unparse(item), ["property", "staticmethod", "classmethod"], f"{name}:{node.lineno}")
            self.assertIsNone(node.returns)
        self.none([(n, node) for n, node in nodes(ast.arg) if node.annotation])
        self.none([(n, node) for n, node in nodes(ast.ClassDef) if node.decorator_list])

    def test_names(self):
        for name, node, told in bound_names():
            self.assertRegex(told, r"^(_|_?[A-Za-z][A-Za-z0-9_]*)$", f"{name}:{node.lineno}")
            self.assertNotIn(told, NOWHERE + NOT_NAMED)
        for name, node in nodes(ast.Attribute):
            self.assertNotIn(node.attr, [*NOWHERE, "format", "args"])
        self.none([(n, node) for n, node in nodes(ast.Name) if node.id == "_" and isinstance(node.ctx, ast.Load)])

    def test_methods_are_own_or_plain(self):
        own = [node.name for _, node in nodes(ast.FunctionDef)]
        for name, node in nodes(ast.Call):
            if isinstance(node.func, ast.Attribute):
                self.assertIn(node.func.attr, own + METHODS, f"{name}:{node.lineno}")
                self.assertNotRegex(node.func.attr, r"^__(?!init__)", f"{name}:{node.lineno}")

    def test_numbers_and_strings(self):
        for name, node in nodes(ast.Constant):
            self.assertNotIsInstance(node.value, (float, complex, bytes), f"{name}:{node.lineno}")
            if isinstance(node.value, str):
                self.assertNotIn("%", node.value, f"{name}:{node.lineno}")
                self.assertNotRegex(node.value, r"^__.*__$|\._+$")
        powers = [(n, node) for n, node in nodes(ast.BinOp) if isinstance(node.op, ast.Pow)]
        self.none([(n, node) for n, node in powers if not isinstance(node.right, ast.Constant)])

    def test_words_that_stand_nowhere(self):
        for name, source in SOURCES.items():
            code = ast.unparse(TREES[name])
            for row in re.sub(r'"""[^"]*"""', "", code).split("\n"):
                self.assertEqual([word for word in re.findall(r"\w+", row) if word in NOWHERE], [], name)
            self.assertNotRegex(code, r"dataclass|overload|contextmanager")

    def test_what_is_iterated_at_once(self):
        generators = [
            node.name for _, node in nodes(ast.FunctionDef) if any(isinstance(row, ast.Yield) for row in ast.walk(node))
        ]
        for name, tree in TREES.items():
            around = parents(tree)
            for node in ast.walk(tree):
                if isinstance(node, ast.Call):
                    told = ast.unparse(node.func).rpartition(".")[2]
                    if told in generators + AT_ONCE:
                        self.assertTrue(is_iterated(node, around[id(node)]), f"{name}:{node.lineno}")

    def test_each_generator_has_its_name_alone(self):
        defined = [node for _, node in nodes(ast.FunctionDef)]
        names = [node.name for node in defined]
        for node in defined:
            if any(isinstance(row, (ast.Yield, ast.YieldFrom)) for row in ast.walk(node)):
                self.assertEqual(names.count(node.name), 1, node.name)
                self.assertNotIn(node.name, METHODS)

    def test_operators_and_properties_change_nothing(self):
        found = run_by_signs_and_properties()
        self.assertIn("history", [node.name for node in found])
        for node in found:
            for row in ast.walk(node):
                if isinstance(row, (ast.Attribute, ast.Subscript)) and not isinstance(row.ctx, ast.Load):
                    self.assertEqual((node.name, ast.unparse(row)[:5]), ("__init__", "self."))
                self.assertNotIsInstance(row, (ast.AugAssign, ast.Delete), node.name)
                if isinstance(row, ast.Call) and isinstance(row.func, ast.Attribute) and row.func.attr in CHANGING:
                    self.assertIn(ast.unparse(row.func.value), own_lists(node), node.name)

    def test_operators_and_properties_call_nothing_that_they_hold(self):
        names = {*defined_by_name(), *BUILTINS, *METHODS}
        names |= {node.name for tree in TREES.values() for node in tree.body if isinstance(node, ast.ClassDef)}
        for node in run_by_signs_and_properties():
            given = {item.arg for item in node.args.args}
            for row in ast.walk(node):
                if isinstance(row, ast.Call):
                    told = ast.unparse(row.func)
                    self.assertIn(told.rpartition(".")[2], names, f"{node.name}: {told}")
                    self.assertNotIn(told, given, f"{node.name}: {told}")

    def test_identity_is_asked_of_none_and_truths_alone(self):
        for name, node in nodes(ast.Compare):
            if isinstance(node.ops[0], (ast.Is, ast.IsNot)):
                self.assertIn(ast.unparse(node.comparators[0]), ["None", "True", "False"], f"{name}:{node.lineno}")

    def test_errors_are_created_where_they_are_raised(self):
        for name, node in nodes(ast.Raise):
            if node.exc is not None:
                self.assertIsInstance(node.exc, ast.Call, f"{name}:{node.lineno}")
                self.assertIsInstance(node.exc.func, ast.Name, f"{name}:{node.lineno}")
                self.assertFalse(node.exc.keywords)

    def test_each_class_that_compares_does_so_plainly(self):
        for name, node in nodes(ast.FunctionDef):
            if node.name == "__eq__":
                told = ast.unparse(node.body[-1])
                plain = r"^return isinstance\(other, \w+\)( and \(?self\.([\w.]+(\(\))?) == other\.\2\)?)+$"
                self.assertRegex(told, plain, name)
            if node.name == "__len__":
                self.assertRegex(ast.unparse(node.body[-1]), r"^return len\(self(\.\w+)+\)$", name)
            if node.name == "__iter__":
                told = ast.unparse(node.body[-1])
                self.assertRegex(told, r"^return iter\(self\.\w+\)$|^raise TypeError\('[a-z ,]+'\)$", name)


if __name__ == "__main__":
    unittest.main()
