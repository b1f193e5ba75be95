"""Checks that the package keeps to the subset of Python, as far as a short check can see."""

import ast
import pathlib
import re
import unittest

FOLDER = pathlib.Path(__file__).resolve().parent.parent / "thawedwrites"
FILES = sorted(FOLDER.rglob("*.py"))

BUILTINS = set("""len range enumerate zip min max sum abs sorted reversed int str bool bytes list tuple dict set
    frozenset isinstance ord repr any all divmod iter next map super property staticmethod classmethod Exception
    ValueError TypeError KeyError IndexError LookupError ZeroDivisionError ArithmeticError OverflowError RuntimeError
    NotImplementedError AttributeError StopIteration NotImplemented""".split())
BUILTIN_METHODS = set("""append clear copy count endswith extend find get index insert isalnum isalpha isdigit islower
    isspace isupper items join keys ljust lower lstrip partition pop remove replace reverse rfind rjust rpartition
    rsplit rstrip setdefault split splitlines startswith strip update upper values zfill bit_length title capitalize
    swapcase casefold center expandtabs removeprefix removesuffix rindex isascii isdecimal isnumeric istitle
    isidentifier isprintable encode decode hex translate sort add discard""".split())
METHODS = set("""__init__ __eq__ __repr__ __str__ __len__ __enter__ __exit__ __call__ __iter__ __lt__ __le__ __gt__
    __ge__ __ne__ __add__ __sub__ __mul__ __floordiv__ __mod__ __pow__ __and__ __or__ __xor__ __lshift__ __rshift__
    __neg__ __pos__ __invert__ __abs__ __bool__ __contains__ __getitem__ __setitem__""".split())
LIBRARY = {
    "heapq": {"heappush", "heappop", "heapify", "heapreplace", "heappushpop"},
    "math": {"gcd", "lcm", "isqrt", "comb", "perm", "factorial"},
    "itertools": {"product", "combinations", "permutations"},
}
BARRED_NAMES = set("""register mro elements open input law version_info with_traceback add_note attrgetter breakpoint
    builtins compile copyright credits delattr dir eval exec exit gc getattr globals hasattr help id importlib license
    locals methodcaller os quit setattr type vars hash round""".split())
BARRED_WORDS = re.compile(r"\b(typing|typing_extensions|enum|Enum|IntEnum|StrEnum|Flag|IntFlag|Generic|Protocol|ABC"
                          r"|ABCMeta|namedtuple|NamedTuple|TypedDict|TYPE_CHECKING|abstractmethod)\b"
                          r"|dataclass|overload|contextmanager|_wall\b|_WallAttr|\(type\)|Meta|metaclass=")
BARRED_NODES = (ast.AsyncFunctionDef, ast.AsyncFor, ast.AsyncWith, ast.Await, ast.Global, ast.Div, ast.MatMult,
                ast.Import)

# What the interface lists for each file: functions, and classes with the methods in their own body.
INTERFACE = {
    "errors": {"ThawError": "", "InvalidHeap": "", "InvalidProgram": "", "InvalidFacts": "", "InvalidArgument": "",
               "InvalidText": "", "LimitExceeded": "", "RunError": "", "Hollow": "", "Refused": ""},
    "heaps": {"Heap": "__init__ __getitem__ __contains__ __len__ __eq__ objects names at parts normal"},
    "programs": {"Program": "__init__ rows row places copies writes readers variables with_depths __or__ __eq__"},
    "runs": {"Run": "__init__ end reached made value looks behind"},
    "live": {"Live": "__init__ do duplicate watch value is_same made reached behind trial attempt __getitem__ "
                     "__setitem__"},
    "facts": {"Facts": "__init__ names edges heap told __eq__ __contains__ __len__"},
    "stories": {"stories": "", "story_of": ""},
    "reaches": {"never": "", "witness": "", "refusals": "", "hollows": "", "is_listed": ""},
    "depths": {"is_safe": "", "least_depths": "", "needless": ""},
    "alike": {"ends_alike": ""},
    "most": {"most_made": "", "most_heap": ""},
    "texts": {"program_text": "", "heap_text": "", "read_program": "", "read_heap": ""},
    "desk": {"Desk": "__init__ current stories never insert delete undo redo turns __getitem__ __setitem__ __call__"},
}


def wrong_powers(tree):
    """The powers in the tree whose exponent is not a written number from 0 to 64."""
    found = []
    for node in ast.walk(tree):
        if isinstance(node, (ast.BinOp, ast.AugAssign)) and isinstance(node.op, ast.Pow):
            exponent = node.right if isinstance(node, ast.BinOp) else node.value
            is_written = isinstance(exponent, ast.Constant) and type(exponent.value) is int
            if not is_written or not 0 <= exponent.value <= 64:
                found.append(node)
    return found


class LanguageTest(unittest.TestCase):
    def setUp(self):
        self.texts = {path: path.read_bytes().decode("ascii") for path in FILES}
        self.trees = {path: ast.parse(text) for path, text in self.texts.items()}

    def nodes(self, *kinds):
        for path, tree in self.trees.items():
            for node in ast.walk(tree):
                if isinstance(node, kinds):
                    yield path, node

    def refuse(self, path, node, why):
        self.fail(f"{path.name}, line {node.lineno}: {why}")

    def test_files(self):
        self.assertIn(FOLDER / "__init__.py", FILES)
        for path in FOLDER.rglob("*"):
            if "__pycache__" not in path.parts:
                self.assertRegex(path.name, r"^(__init__|[a-z][a-z0-9_]*)\.py$")

    def test_characters_and_size(self):
        for path, text in self.texts.items():
            lines = text.split("\n")
            self.assertLess(len(lines), 400, path)
            for number, line in enumerate(lines, 1):
                self.assertRegex(line, r"^[ -~]{0,120}$", f"{path.name}, line {number}")
            self.assertIsNone(BARRED_WORDS.search(text), path)

    def test_functions_are_short_and_plain(self):
        for path, node in self.nodes(ast.FunctionDef):
            if node.end_lineno - node.lineno + 1 > 40:
                self.refuse(path, node, "more than 40 lines")
            if node.name.startswith("__") and node.name not in METHODS:
                self.refuse(path, node, "a method that is not allowed")
            for one in node.decorator_list:
                if ast.unparse(one) not in ("property", "staticmethod", "classmethod") and ".setter" not in \
                        ast.unparse(one):
                    self.refuse(path, node, "a decorator that is not allowed")

    def test_no_statements_and_signs_that_are_not_allowed(self):
        for path, node in self.nodes(*BARRED_NODES):
            self.fail(f"{path.name}: {type(node).__name__}")
        for path, node in self.nodes(ast.Constant):
            if isinstance(node.value, (float, complex)) or node.value is Ellipsis:
                self.refuse(path, node, "a value that is not allowed")
            if isinstance(node.value, str) and "%" in node.value:
                self.refuse(path, node, "a string with a percent sign")

    def test_each_power_has_a_written_exponent(self):
        for path, tree in self.trees.items():
            for node in wrong_powers(tree):
                self.refuse(path, node, "a power without a written exponent from 0 to 64")

    def test_which_powers_are_wrong(self):
        for text in ("2 ** 0", "n ** 64", "(n + 1) ** 2", "n **= 3", "2 * n", "n *= k", "told(**more)", "{**more}"):
            self.assertEqual(wrong_powers(ast.parse(text)), [], text)
        for text in ("2 ** n", "(most + 1) ** many", "n **= k", "2 ** 65", "2 ** -1", "2 ** True", "n ** (1 + 1)",
                     "n ** len(xs)", "[x ** y for x in xs]", "2 ** 2 ** 2", "n **= 65", "lambda n=2 ** K: n"):
            self.assertEqual(len(wrong_powers(ast.parse(text))), 1, text)

    def test_module_level(self):
        for path, tree in self.trees.items():
            for node in tree.body:
                is_docstring = isinstance(node, ast.Expr) and isinstance(node.value, ast.Constant)
                if not is_docstring and not isinstance(node, (ast.ImportFrom, ast.FunctionDef, ast.ClassDef,
                                                              ast.Assign)):
                    self.refuse(path, node, "not allowed at module level")

    def test_imports(self):
        for path, node in self.nodes(ast.ImportFrom):
            names = {one.name for one in node.names}
            if node.level or not (node.module.startswith("thawedwrites.") or names <= LIBRARY.get(node.module, set())):
                self.refuse(path, node, "an import that is not allowed")
            if node.module.startswith("thawedwrites."):
                file = FOLDER / (node.module.split(".", 1)[1].replace(".", "/") + ".py")
                defined = {one.name for one in self.trees[file].body if isinstance(one, (ast.FunctionDef, ast.ClassDef))}
                for one in self.trees[file].body:
                    if isinstance(one, ast.Assign):
                        defined.update(ast.unparse(target) for target in one.targets)
                self.assertLessEqual(names, defined, path)

    def test_no_circle_of_imports(self):
        above = {path.stem: [] for path in FILES}
        for path, node in self.nodes(ast.ImportFrom):
            above[path.stem].append(node.module.split(".")[-1])
        left = dict(above)
        while left:
            free = [name for name in left if not any(other in left for other in left[name])]
            self.assertTrue(free, f"a circle among {sorted(left)}")
            for name in free:
                del left[name]

    def test_names(self):
        own_methods = {node.name for _, node in self.nodes(ast.FunctionDef)}
        for path, tree in self.trees.items():
            told = {node.id for node in ast.walk(tree) if isinstance(node, ast.Name) and
                    isinstance(node.ctx, ast.Store)}
            told |= {node.name for node in ast.walk(tree) if isinstance(node, (ast.FunctionDef, ast.ClassDef))}
            told |= {node.arg for node in ast.walk(tree) if isinstance(node, ast.arg)}
            self.assertEqual(told & (BARRED_NAMES | BUILTINS), set(), path)
            told |= {one.name for node in ast.walk(tree) if isinstance(node, ast.ImportFrom) for one in node.names}
            for node in ast.walk(tree):
                if isinstance(node, ast.Name) and node.id not in told | BUILTINS:
                    self.refuse(path, node, f"the name {node.id}")
                if isinstance(node, ast.Call) and isinstance(node.func, ast.Attribute):
                    if node.func.attr not in own_methods | BUILTIN_METHODS:
                        self.refuse(path, node, f"the method {node.func.attr}")

    def test_sets_are_not_kept_or_iterated_over_as_values(self):
        for path, node in self.nodes(ast.For, ast.comprehension):
            if isinstance(node.iter, (ast.Set, ast.SetComp)) or ast.unparse(node.iter).startswith(("set(", "frozenset(")):
                self.refuse(path, node.iter, "a set is iterated over")

    def test_errors_are_created_where_they_are_raised(self):
        for path, node in self.nodes(ast.Raise):
            if node.exc is not None and not isinstance(node.exc, ast.Call):
                self.refuse(path, node, "raise without a call")

    def test_a_class_with_items_is_told_about_iteration(self):
        for path, node in self.nodes(ast.ClassDef):
            names = [one.name for one in node.body if isinstance(one, ast.FunctionDef)]
            self.assertEqual(len(names), len(set(names)), node.name)
            if "__getitem__" in names:
                self.assertIn("__iter__", names, node.name)

    def test_the_interface_stands_in_its_files(self):
        for file, told in INTERFACE.items():
            defined = {node.name: node for node in self.trees[FOLDER / f"{file}.py"].body
                       if isinstance(node, (ast.ClassDef, ast.FunctionDef))}
            for name, methods in told.items():
                self.assertIn(name, defined, file)
                own = {one.name for one in defined[name].body if isinstance(one, ast.FunctionDef)}
                self.assertLessEqual(set(methods.split()), own, name)


if __name__ == "__main__":
    unittest.main()
