"""The form of the code: those rules of LANGUAGE.md that can be seen in a file by itself, or in all imports."""

import ast
import builtins
import pathlib
import re

from tests.helping import Case

FOLDER = pathlib.Path(__file__).resolve().parent.parent / "wholeways"
FILES = sorted(FOLDER.glob("*.py"))

BUILTINS = """len range enumerate zip min max sum abs sorted reversed int str bool bytes list tuple dict set frozenset isinstance
ord repr any all divmod pow map iter next Exception ValueError TypeError KeyError IndexError LookupError ZeroDivisionError
ArithmeticError OverflowError RuntimeError NotImplementedError StopIteration NotImplemented""".split()

METHODS = """append clear copy count endswith extend find get index insert isalnum isalpha isdigit islower isspace isupper items join
keys ljust lower lstrip partition pop remove replace reverse rfind rjust rpartition rsplit rstrip setdefault split splitlines
startswith strip update upper values zfill bit_length add discard title capitalize swapcase casefold center expandtabs
removeprefix removesuffix rindex isascii isdecimal isnumeric istitle isidentifier isprintable""".split()

NEVER_NAMES = "register mro elements open input law version_info with_traceback add_note format format_map".split()
NEVER_WORDS = """type typing typing_extensions enum Enum IntEnum StrEnum Flag IntFlag Generic Protocol ABC ABCMeta namedtuple
NamedTuple TypedDict TYPE_CHECKING abstractmethod _wall _WallAttr""".split()
NEVER_PRIVATE = "_cold _tuplegetter _outside _record _written_out _member_names".split()
ATTRIBUTES_NOT_LET = """items keys values pop update append clear extend insert remove reverse setdefault sort args encode decode
hex fromhex format""".split()
LIBRARY = {"heapq": ["heappush", "heappop", "heapify", "heapreplace", "heappushpop"]}


def walked(tree, *kinds):
    return [node for node in ast.walk(tree) if isinstance(node, kinds)]


def bound_names(tree):
    """All names that a piece of code binds, but attributes."""
    found = [node.id for node in walked(tree, ast.Name) if isinstance(node.ctx, (ast.Store, ast.Del))]
    found += [node.arg for node in walked(tree, ast.arg)]
    found += [node.name for node in walked(tree, ast.FunctionDef, ast.ClassDef)]
    found += [node.name for node in walked(tree, ast.ExceptHandler) if node.name]
    return found


def own_methods(trees):
    return {node.name for tree in trees for kind in walked(tree, ast.ClassDef) for node in kind.body
            if isinstance(node, ast.FunctionDef)}


class Form(Case):
    def setUp(self):
        self.texts = {path.stem: path.read_text() for path in FILES}
        self.trees = {name: ast.parse(text) for name, text in self.texts.items()}

    def each(self):
        for name, tree in self.trees.items():
            with self.subTest(file=name):
                yield name, tree

    def test_files(self):
        self.assertEqual(sorted(path.name for path in FOLDER.iterdir() if path.name != "__pycache__"), [p.name for p in FILES])
        self.assertLessEqual(len(FILES), 100)
        for path in FILES:
            self.assertRegex(path.name, r"^[a-z_][a-z0-9_]*\.py$")
            data = path.read_bytes()
            self.assertTrue(all(sign == 10 or 32 <= sign <= 126 for sign in data), path.name)
            lines = path.read_text().split("\n")
            self.assertLessEqual(len(lines), 400, path.name)
            for line in lines:
                self.assertLessEqual(len(line), 120, line)

    def test_sizes_of_functions(self):
        for _, tree in self.each():
            for node in walked(tree, ast.FunctionDef):
                self.assertLessEqual(node.end_lineno - node.lineno + 1, 40, node.name)
                self.assertEqual(node.decorator_list, [])

    def test_imports(self):
        defined = {name: [node.name for node in tree.body if isinstance(node, (ast.FunctionDef, ast.ClassDef))]
                   + [target.id for node in tree.body if isinstance(node, ast.Assign) for target in node.targets]
                   for name, tree in self.trees.items()}
        for name, tree in self.each():
            self.assertEqual(walked(tree, ast.Import), [])
            for node in walked(tree, ast.ImportFrom):
                self.assertIn(node, tree.body)
                self.assertTrue(all(alias.asname is None for alias in node.names))
                names = [alias.name for alias in node.names]
                if node.module in LIBRARY:
                    self.assertLessEqual(set(names), set(LIBRARY[node.module]))
                else:
                    self.assertEqual(node.module.split(".")[0], "wholeways")
                    self.assertLessEqual(set(names), set(defined[node.module.split(".")[1]]))

    def test_no_cycle_of_imports(self):
        needs = {name: [node.module.split(".")[1] for node in walked(tree, ast.ImportFrom) if "." in node.module]
                 for name, tree in self.trees.items()}
        while needs:
            free = [name for name, row in needs.items() if not set(row) & set(needs)]
            self.assertNotEqual(free, [], needs)
            needs = {name: row for name, row in needs.items() if name not in free}

    def test_each_import_is_used(self):
        for _, tree in self.each():
            used = {node.id for node in walked(tree, ast.Name)}
            for node in walked(tree, ast.ImportFrom):
                self.assertLessEqual({alias.name for alias in node.names}, used)

    def test_module_level(self):
        for _, tree in self.each():
            self.assertIsInstance(tree.body[0], ast.Expr)
            for node in tree.body[1:]:
                self.assertIsInstance(node, (ast.ImportFrom, ast.FunctionDef, ast.ClassDef, ast.Assign))
                if isinstance(node, ast.Assign):
                    self.assertEqual([type(target) for target in node.targets], [ast.Name])
                    self.assertEqual(walked(node.value, ast.Call, ast.ListComp, ast.Lambda, ast.Set), [])

    def test_names(self):
        for name, tree in self.each():
            classes = [node.name for node in walked(tree, ast.ClassDef)]
            imported = [alias.name for node in walked(tree, ast.ImportFrom) for alias in node.names]
            top = [node.name for node in tree.body if isinstance(node, (ast.FunctionDef, ast.ClassDef))] + imported
            self.assertEqual(len(top), len(set(top)))
            for node in walked(tree, ast.FunctionDef):
                inside = [n for part in [node.args, *node.body] for n in bound_names(part)]
                self.assertFalse(set(inside) & set(classes + imported), node.name)
                self.assertFalse([n for n in inside if hasattr(builtins, n)], node.name)
            methods = own_methods([tree])
            for bound in bound_names(tree):
                self.assertNotIn(bound, NEVER_NAMES + NEVER_PRIVATE)
                if bound not in methods:
                    self.assertFalse(hasattr(builtins, bound), bound)
            for attribute in walked(tree, ast.Attribute):
                self.assertNotIn(attribute.attr, NEVER_NAMES + NEVER_PRIVATE)
                if isinstance(attribute.ctx, ast.Store):
                    self.assertNotIn(attribute.attr, ATTRIBUTES_NOT_LET)

    def test_no_attribute_is_a_method_of_its_class(self):
        for _, tree in self.each():
            for kind in walked(tree, ast.ClassDef):
                methods = [node.name for node in kind.body if isinstance(node, ast.FunctionDef)]
                self.assertEqual(len(methods), len(set(methods)))
                stored = {node.attr for node in walked(kind, ast.Attribute) if isinstance(node.ctx, ast.Store)}
                self.assertFalse(stored & set(methods), kind.name)

    def test_no_attribute_is_a_method_elsewhere(self):
        """Narrower than it must be, but nothing has to be asked then of how such a name is called."""
        stored = {node.attr for tree in self.trees.values() for node in walked(tree, ast.Attribute) if isinstance(node.ctx, ast.Store)}
        self.assertFalse(stored & own_methods(self.trees.values()))

    def test_no_name_at_module_level_is_made_of_another(self):
        """But for tables of functions that stand above in the same file."""
        for _, tree in self.each():
            functions = []
            for node in tree.body:
                if isinstance(node, ast.FunctionDef):
                    functions.append(node.name)
                if isinstance(node, ast.Assign):
                    self.assertLessEqual({name.id for name in walked(node.value, ast.Name)}, set(functions))

    def test_builtins_and_methods(self):
        own = own_methods(self.trees.values()) | {"put", "take_page", "give_page", "root", "set_root"}
        for name, tree in self.each():
            bound = set(bound_names(tree)) | {alias.name for node in walked(tree, ast.ImportFrom) for alias in node.names}
            for node in walked(tree, ast.Name):
                if hasattr(builtins, node.id) and node.id not in bound:
                    self.assertIn(node.id, BUILTINS)
            for node in walked(tree, ast.Call):
                if isinstance(node.func, ast.Attribute):
                    self.assertIn(node.func.attr, own | set(METHODS) | {"__init__"})
                for keyword in node.keywords:
                    self.assertIn((node.func.id, keyword.arg), [("max", "default"), ("min", "default"), ("sorted", "key"), ("max", "key"),
                                                                ("min", "key"), ("sorted", "reverse"), ("sum", "start")])

    def test_words(self):
        for name, tree in self.each():
            docs = {id(node.body[0].value) for node in walked(tree, ast.Module, ast.ClassDef, ast.FunctionDef)
                    if isinstance(node.body[0], ast.Expr) and isinstance(node.body[0].value, ast.Constant)}
            for node in walked(tree, ast.Constant):
                if isinstance(node.value, str):
                    self.assertNotIn("%", node.value)
                    if id(node) not in docs:
                        self.assertFalse(set(re.findall(r"\w+", node.value)) & set(NEVER_WORDS))
            used = set(bound_names(tree)) | {node.id for node in walked(tree, ast.Name)} | {node.attr for node in walked(tree, ast.Attribute)}
            self.assertFalse(used & set(NEVER_WORDS))
            self.assertNotIn("\\", self.texts[name])

    def test_constructs(self):
        for name, tree in self.each():
            never = (ast.Global, ast.AsyncFunctionDef, ast.Await, ast.GeneratorExp, ast.Yield, ast.YieldFrom, ast.SetComp, ast.Set,
                     ast.Div, ast.NamedExpr, ast.With, ast.JoinedStr)
            self.assertEqual(walked(tree, *never), [])
            self.assertFalse([node for node in walked(tree, ast.Constant) if isinstance(node.value, (float, complex))])
            for node in walked(tree, ast.Compare):
                if any(isinstance(sign, (ast.Is, ast.IsNot)) for sign in node.ops):
                    self.assertIsInstance(node.comparators[0], ast.Constant)
                    self.assertIn(node.comparators[0].value, (None, True, False))
            for node in walked(tree, ast.BinOp):
                if isinstance(node.op, ast.Pow):
                    self.assertIsInstance(node.right, ast.Constant)
            for node in walked(tree, ast.Name):
                if node.id == "_":
                    self.assertIsInstance(node.ctx, ast.Store)

    def test_sets_stand_where_they_may(self):
        for _, tree in self.each():
            let = {id(node.args[0]) for node in walked(tree, ast.Call)
                   if isinstance(node.func, ast.Name) and node.func.id in ("len", "sorted") and node.args}
            for node in walked(tree, ast.Call):
                if isinstance(node.func, ast.Name) and node.func.id in ("set", "frozenset"):
                    self.assertIn(id(node), let)

    def test_errors_are_made_on_the_spot(self):
        errors = [node.name for node in self.trees["errors"].body if isinstance(node, ast.ClassDef)]
        for _, tree in self.each():
            for node in walked(tree, ast.Raise):
                self.assertIsInstance(node.exc, ast.Call)
                self.assertIn(node.exc.func.id, errors)
                self.assertIsNone(node.cause)
            for node in walked(tree, ast.ExceptHandler):
                for kind in node.type.elts if isinstance(node.type, ast.Tuple) else [node.type]:
                    self.assertIn(kind.id, errors + ["KeyError"])

    def test_views_are_iterated_at_once(self):
        """items, keys, values, range, zip, enumerate and reversed stand in a loop, or in a call that goes over them."""
        for _, tree in self.each():
            let = {id(node.iter) for node in walked(tree, ast.For, ast.comprehension)}
            let |= {id(node.args[0]) for node in walked(tree, ast.Call) if isinstance(node.func, ast.Name) and node.args
                    and node.func.id in ("list", "tuple", "dict", "sorted", "sum", "any", "all")}
            let |= {id(node.args[0]) for node in walked(tree, ast.Call) if isinstance(node.func, ast.Name)
                    and node.func.id == "reversed" and node.args and ast.unparse(node.args[0]).startswith("range(")}
            for node in walked(tree, ast.Call):
                kept = isinstance(node.func, ast.Name) and node.func.id in ("range", "zip", "enumerate", "reversed")
                kept = kept or (isinstance(node.func, ast.Attribute) and node.func.attr in ("items", "keys", "values"))
                if kept:
                    self.assertIn(id(node), let, ast.unparse(node))
