"""The rules of the language that can be seen in the files of the package, one by one."""

import ast
import builtins
import pathlib
import re
import unittest

PACKAGE = pathlib.Path(__file__).resolve().parent.parent / "mustwait"
FILES = {path.stem: path.read_text(encoding="utf-8") for path in sorted(PACKAGE.glob("*.py"))}
TREES = {name: ast.parse(text) for name, text in FILES.items()}

BUILTINS = set(
    "len range enumerate zip min max sum abs sorted reversed int str bool list tuple dict set isinstance ord repr any"
    " all divmod map iter next super property classmethod staticmethod Exception ValueError TypeError KeyError"
    " IndexError LookupError NotImplemented NotImplementedError".split()
)
LIBRARY = {
    "heapq": {"heappush", "heappop", "heapify", "heapreplace", "heappushpop"},
    "math": {"gcd", "lcm", "isqrt", "comb", "perm", "factorial"},
    "collections": {"defaultdict"},
}
METHODS = set(
    "append clear copy count endswith extend find get index insert isalnum isalpha isdigit islower isspace isupper"
    " items join keys ljust lower lstrip partition pop remove replace reverse rfind rjust rpartition rsplit rstrip"
    " setdefault split splitlines startswith strip update upper values zfill bit_length add discard".split()
)
DOUBLE = set(
    "__init__ __eq__ __repr__ __str__ __len__ __enter__ __exit__ __call__ __iter__ __contains__".split()
)
BARRED = re.compile(
    r"\b(typing|typing_extensions|enum|Enum|IntEnum|StrEnum|Flag|IntFlag|Generic|Protocol|ABC|ABCMeta|namedtuple"
    r"|NamedTuple|TypedDict|TYPE_CHECKING|abstractmethod|global|async|await)\b|dataclass|overload|contextmanager"
)
UNUSED = set("register mro elements open input law version_info with_traceback add_note".split())
OTHER_UNUSED = set(
    "attrgetter breakpoint builtins compile copyright credits delattr dir eval exec exit gc getattr globals hasattr"
    " help id importlib license locals methodcaller os quit setattr type vars sys".split()
)


def nodes(kind):
    return [(name, node) for name, tree in TREES.items() for node in ast.walk(tree) if isinstance(node, kind)]


def bound_names():
    """All names that the package gives to parameters, variables and caught errors, each with its file."""
    found = [(name, node.arg) for name, node in nodes(ast.arg)]
    found += [(name, node.id) for name, node in nodes(ast.Name) if not isinstance(node.ctx, ast.Load)]
    found += [(name, node.name) for name, node in nodes(ast.ExceptHandler) if node.name]
    return [(name, word) for name, word in found if word != "_"]


def imports_of(name):
    return [alias.name for node in TREES[name].body if isinstance(node, ast.ImportFrom) for alias in node.names]


def classes_of(name):
    return [node.name for node in TREES[name].body if isinstance(node, ast.ClassDef)]


class Files(unittest.TestCase):
    def test_the_folder(self):
        for path in PACKAGE.iterdir():
            if path.name != "__pycache__":
                self.assertRegex(path.name, r"\A[a-z_][a-z0-9_]*\.py\Z")
        self.assertIn("__init__", FILES)

    def test_characters_and_sizes(self):
        for name, text in FILES.items():
            self.assertRegex(text, r"\A[ -~\n]*\Z", name)
            lines = text.split("\n")
            self.assertLessEqual(len(lines), 399, name)
            self.assertLessEqual(max(map(len, lines)), 120, name)

    def test_functions_are_small(self):
        for name, node in nodes((ast.FunctionDef, ast.AsyncFunctionDef)):
            self.assertLessEqual(node.end_lineno - node.lineno + 1, 40, (name, node.name))

    def test_barred_words(self):
        for name, tree in TREES.items():
            code = ast.unparse(tree)
            self.assertIsNone(BARRED.search(code), name)


class Imports(unittest.TestCase):
    def test_forms(self):
        for name, node in nodes((ast.Import, ast.ImportFrom)):
            self.assertIsInstance(node, ast.ImportFrom, name)
            self.assertEqual(node.level, 0, name)
            self.assertIn(node, TREES[name].body)
            for alias in node.names:
                self.assertIsNone(alias.asname)
                if node.module in LIBRARY:
                    self.assertIn(alias.name, LIBRARY[node.module])
                else:
                    self.assertIn(alias.name, self.defined(node.module))

    def defined(self, module):
        package, name = module.split(".")
        self.assertEqual(package, "mustwait")
        found = set()
        for node in TREES[name].body:
            if isinstance(node, (ast.FunctionDef, ast.ClassDef)):
                found.add(node.name)
            if isinstance(node, ast.Assign):
                found.update(target.id for target in node.targets)
        return found

    def test_no_rings(self):
        wanted = {name: set() for name in FILES}
        for name, node in nodes(ast.ImportFrom):
            if node.module.startswith("mustwait."):
                wanted[name].add(node.module.split(".")[1])
        while wanted:
            free = [name for name, others in wanted.items() if not others & set(wanted)]
            self.assertTrue(free, wanted)
            for name in free:
                del wanted[name]

    def test_imports_are_used(self):
        for name, tree in TREES.items():
            used = {node.id for node in ast.walk(tree) if isinstance(node, ast.Name)}
            self.assertEqual(set(imports_of(name)) - used, set(), name)

    def test_no_name_of_an_import_or_a_class_is_bound_again(self):
        for name in FILES:
            fixed = imports_of(name) + classes_of(name)
            functions = [node.name for place, node in nodes(ast.FunctionDef) if place == name]
            bound = functions + [word for place, word in bound_names() if place == name]
            self.assertEqual(sorted(set(fixed)), sorted(fixed), name)
            self.assertEqual(set(fixed) & set(bound), set(), name)


class Code(unittest.TestCase):
    def test_module_level(self):
        for name, tree in TREES.items():
            self.assertIsInstance(tree.body[0], ast.Expr, name)
            for node in tree.body[1:]:
                self.assertIsInstance(node, (ast.ImportFrom, ast.FunctionDef, ast.ClassDef, ast.Assign), name)

    def test_no_generator_expressions(self):
        # The package has a class with __eq__: any, all, sorted and the like take lists (L7).
        self.assertEqual([name for name, _ in nodes(ast.GeneratorExp)], [])

    def test_no_floats_and_no_division(self):
        for name, node in nodes(ast.Constant):
            self.assertNotIsInstance(node.value, (float, complex), name)
        self.assertEqual(nodes(ast.Div), [])

    def test_strings(self):
        for name, node in nodes(ast.Constant):
            if isinstance(node.value, str):
                self.assertNotIn("%", node.value, name)

    def test_is(self):
        for name, node in nodes(ast.Compare):
            for sign, value in zip(node.ops, node.comparators):
                if isinstance(sign, (ast.Is, ast.IsNot)):
                    self.assertIsInstance(value, ast.Constant, name)
                    self.assertIn(value.value, (None, True, False), name)

    def test_decorators(self):
        for name, node in nodes((ast.FunctionDef, ast.ClassDef)):
            for decorator in node.decorator_list:
                self.assertIn(decorator.id, ("property", "classmethod", "staticmethod"), name)

    def test_statements(self):
        self.assertEqual(nodes((ast.Global, ast.AsyncFunctionDef, ast.AsyncFor, ast.AsyncWith, ast.Await)), [])

    def test_handlers(self):
        for name, node in nodes(ast.ExceptHandler):
            for part in node.type.elts if isinstance(node.type, ast.Tuple) else [node.type]:
                self.assertIn(part.id, classes_of("errors") + ["KeyError"], name)


class Names(unittest.TestCase):
    def test_no_builtin_is_bound(self):
        barred = set(dir(builtins)) | UNUSED | OTHER_UNUSED
        methods = {id(part) for _, node in nodes(ast.ClassDef) for part in node.body}
        for name, node in nodes(ast.FunctionDef):
            self.assertNotIn(node.name, UNUSED if id(node) in methods else barred, name)
        for name, word in bound_names():
            self.assertNotIn(word, barred, name)

    def test_builtins_that_are_used(self):
        for name, node in nodes(ast.Name):
            if hasattr(builtins, node.id) and node.id != "_":
                self.assertIn(node.id, BUILTINS, name)

    def test_methods_that_are_called(self):
        own = {node.name for _, node in nodes(ast.FunctionDef)}
        for name, node in nodes(ast.Call):
            if isinstance(node.func, ast.Attribute):
                self.assertIn(node.func.attr, own | METHODS | {"__init__"}, name)

    def test_attributes(self):
        for name, node in nodes(ast.Attribute):
            self.assertNotIn(node.attr, UNUSED | {"format", "format_map", "mro", "args"}, name)

    def test_double_underscores(self):
        inside = {id(part) for _, node in nodes(ast.ClassDef) for part in node.body}
        for name, node in nodes(ast.FunctionDef):
            if node.name.startswith("__"):
                self.assertIn(node.name, DOUBLE, name)
                self.assertIn(id(node), inside, name)


class Attributes(unittest.TestCase):
    def test_no_attribute_has_the_name_of_a_method(self):
        methods = {part.name for _, node in nodes(ast.ClassDef) for part in node.body if isinstance(part, ast.FunctionDef)}
        for name, node in nodes(ast.Attribute):
            if isinstance(node.ctx, ast.Store):
                self.assertNotIn(node.attr, methods | METHODS, name)
                self.assertIsInstance(node.value, ast.Name, name)

    def test_attributes_that_are_read_are_assigned_or_methods(self):
        known = {part.name for _, node in nodes(ast.ClassDef) for part in node.body if isinstance(part, ast.FunctionDef)}
        known |= {node.attr for _, node in nodes(ast.Attribute) if isinstance(node.ctx, ast.Store)}
        for name, node in nodes(ast.Attribute):
            self.assertIn(node.attr, known | METHODS, name)


    def test_no_method_has_the_name_of_a_property(self):
        found = {True: set(), False: set()}
        for _, node in nodes(ast.ClassDef):
            for part in node.body:
                if isinstance(part, ast.FunctionDef):
                    found["property" in [decorator.id for decorator in part.decorator_list]].add(part.name)
        self.assertEqual(found[True] & found[False], set())


class Walks(unittest.TestCase):
    """What a loop walks is not changed in it, nor in a loop around it behind the walk (L23)."""

    MODIFY = set("append clear extend insert pop remove reverse setdefault update add discard sort".split())

    def walked(self, node):
        """The names, attributes and items that are walked."""
        if isinstance(node, (ast.Name, ast.Attribute, ast.Subscript)):
            return [node]
        if isinstance(node, ast.IfExp):
            return self.walked(node.body) + self.walked(node.orelse)
        if isinstance(node, ast.BoolOp):
            return [part for value in node.values for part in self.walked(value)]
        if isinstance(node, ast.Call) and isinstance(node.func, ast.Name) and node.func.id in ("enumerate", "zip", "reversed"):
            return [part for value in node.args for part in self.walked(value)]
        if isinstance(node, ast.Call) and isinstance(node.func, ast.Attribute) and node.func.attr in ("items", "keys", "values"):
            return self.walked(node.func.value)
        return []

    def root(self, node):
        while isinstance(node, (ast.Attribute, ast.Subscript)):
            node = node.value
        return node.id if isinstance(node, ast.Name) else None

    def changed(self, node):
        if isinstance(node, ast.Call) and isinstance(node.func, ast.Attribute) and node.func.attr in self.MODIFY:
            return [node.func.value]
        if isinstance(node, (ast.Assign, ast.Delete)):
            found = node.targets
        else:
            found = [node.target] if isinstance(node, (ast.AugAssign, ast.For)) else []
        return [part for one in found for part in (one.elts if isinstance(one, (ast.Tuple, ast.List)) else [one])]

    def walks(self, loop):
        found = [node.iter for node in ast.walk(loop) if isinstance(node, (ast.For, ast.comprehension))]
        return [(way.lineno, part) for way in found for part in self.walked(way)]

    def test_what_is_walked_stays_as_it_is(self):
        for name, loop in nodes((ast.For, ast.While)):
            for line, part in self.walks(loop):
                for node in ast.walk(loop):
                    for goal in self.changed(node):
                        text = ast.unparse(goal)
                        same = text.startswith(ast.unparse(part)) or isinstance(goal, ast.Name)
                        if self.root(goal) == self.root(part) and same:
                            self.assertLess(node.lineno, line, (name, text))


class Generators(unittest.TestCase):
    NAMES = {
        node.name for _, node in nodes(ast.FunctionDef)
        if any(isinstance(part, (ast.Yield, ast.YieldFrom)) for part in ast.walk(node))
    }

    def test_nothing_else_has_their_names(self):
        functions = [node.name for _, node in nodes(ast.FunctionDef)]
        for name in self.NAMES:
            self.assertEqual(functions.count(name), 1)
            self.assertNotIn(name, METHODS)
            self.assertNotIn(name, [word for _, word in bound_names()])

    def test_they_are_iterated_at_once(self):
        iterated = {id(node.iter) for _, node in nodes((ast.For, ast.comprehension))}
        iterated |= {id(node.value) for _, node in nodes(ast.YieldFrom)}
        for _, node in nodes(ast.Call):
            if isinstance(node.func, ast.Name) and node.func.id in ("list", "tuple", "sorted", "zip", "enumerate"):
                iterated.update(id(part) for part in node.args)
        for name, node in nodes(ast.Call):
            if isinstance(node.func, ast.Name) and node.func.id in self.NAMES:
                self.assertIn(id(node), iterated, name)
                for part in node.args:
                    self.assertIsInstance(part, (ast.Name, ast.Attribute), name)


class Sets(unittest.TestCase):
    def test_sets_are_not_kept_beyond_what_the_rule_allows(self):
        fine = set()
        for _, node in nodes(ast.Call):
            if isinstance(node.func, ast.Name) and node.func.id in ("sorted", "len"):
                fine.update(id(part) for argument in node.args for part in ast.walk(argument))
        for _, node in nodes(ast.Compare):
            fine.update(id(part) for part in node.comparators)
        for _, node in nodes(ast.Assign):
            if len(node.targets) == 1 and isinstance(node.targets[0], ast.Name):
                fine.add(id(node.value))
        for name, node in nodes((ast.Set, ast.SetComp)):
            self.assertIn(id(node), fine, name)
        for name, node in nodes(ast.Call):
            if isinstance(node.func, ast.Name) and node.func.id == "set":
                self.assertIn(id(node), fine, (name, node.lineno))
