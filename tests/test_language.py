"""Holds each file of the package against what can be counted of the rules for its language."""

import ast
import builtins
import unittest
from pathlib import Path

PACKAGE = Path(__file__).resolve().parent.parent / "keptlast"
FILES = sorted(path for path in PACKAGE.rglob("*") if "__pycache__" not in path.parts)
LIBRARY = {
    "heapq": {"heappush", "heappop", "heapify", "heapreplace", "heappushpop"},
    "math": {"gcd", "lcm", "isqrt", "comb", "perm", "factorial"},
    "itertools": {"product", "combinations", "permutations"},
}
BUILTINS = set(
    "len range enumerate zip min max sum abs sorted reversed int str bool bytes list tuple dict set frozenset isinstance "
    "ord repr any all divmod iter next map property staticmethod classmethod super object Exception ValueError TypeError "
    "KeyError IndexError LookupError ZeroDivisionError ArithmeticError OverflowError RuntimeError NotImplementedError "
    "AttributeError StopIteration NotImplemented".split())
OPERATORS = set("add sub mul floordiv mod and or xor lshift rshift".split())
DUNDERS = {f"__{name}__" for name in [
    *"init eq repr str len enter exit call iter lt le gt ge ne pow ipow neg pos invert abs bool contains getitem".split(),
    *"setitem".split(), *OPERATORS, *[f"r{name}" for name in OPERATORS], *[f"i{name}" for name in OPERATORS]]}
METHODS = set(
    "append clear copy count endswith extend find get index insert isalnum isalpha isdigit islower isspace isupper items "
    "join keys ljust lower lstrip partition pop remove replace reverse rfind rjust rpartition rsplit rstrip setdefault split "
    "splitlines startswith strip update upper values zfill bit_length title capitalize swapcase casefold center expandtabs "
    "removeprefix removesuffix rindex isascii isdecimal isnumeric istitle isidentifier isprintable".split())
NAMES_NOT_USED = set(
    "register mro elements open input law version_info with_traceback add_note attrgetter breakpoint builtins compile "
    "copyright credits delattr dir eval exec exit gc getattr globals hasattr help id importlib license locals methodcaller os "
    "quit setattr type vars sys format format_map".split())
WORDS_NOT_USED = set(
    "type typing typing_extensions enum Enum IntEnum StrEnum Flag IntFlag Generic Protocol ABC ABCMeta namedtuple NamedTuple "
    "TypedDict TYPE_CHECKING abstractmethod".split())
MODIFYING = set("append extend insert pop remove clear reverse update setdefault sort".split())
COMPREHENSIONS = (ast.ListComp, ast.DictComp)
# What a generator's call stands in.
ITERATING = set("list tuple dict sorted sum min max any all enumerate zip".split())
# Python's console, and doctest with it, may keep its last answer among the builtins.
ALL_BUILTINS = set(vars(builtins)) - {"_", "__init__"}
BARRED_NODES = (
    ast.Global, ast.AsyncFunctionDef, ast.AsyncFor, ast.AsyncWith, ast.Await, ast.AnnAssign, ast.Set, ast.SetComp, ast.Div,
    ast.MatMult, ast.GeneratorExp)


def trees():
    for path in FILES:
        if path.suffix == ".py":
            yield path, ast.parse(path.read_text(encoding="utf-8"))


def functions_of(tree):
    for node in ast.walk(tree):
        if isinstance(node, ast.FunctionDef):
            yield node


def is_generator(function):
    return any(isinstance(node, (ast.Yield, ast.YieldFrom)) for node in ast.walk(function))


def parameters_of(function):
    args = function.args
    return [arg.arg for arg in [*args.posonlyargs, *args.args, *args.kwonlyargs, args.vararg, args.kwarg] if arg is not None]


def modified_in(function):
    """The expressions of what a function modifies: by an item, by del, or by a method."""
    for node in ast.walk(function):
        if isinstance(node, ast.Subscript) and isinstance(node.ctx, (ast.Store, ast.Del)):
            yield node.value
        if isinstance(node, ast.Call) and isinstance(node.func, ast.Attribute) and node.func.attr in MODIFYING:
            yield node.func.value


def is_made_here(value):
    """Whether an expression makes a new list or dict."""
    if isinstance(value, ast.Call) and isinstance(value.func, ast.Name):
        return value.func.id in ("list", "dict", "sorted")
    return isinstance(value, (ast.List, ast.Dict, ast.ListComp))


def defined_names():
    """The names of all functions, methods, classes and private attributes of the package."""
    found = set()
    for _, tree in trees():
        for node in ast.walk(tree):
            if isinstance(node, (ast.FunctionDef, ast.ClassDef)):
                found.add(node.name)
            if isinstance(node, ast.Attribute) and isinstance(node.ctx, ast.Store):
                found.add(node.attr)
    return found


class TestLanguage(unittest.TestCase):
    def each_node(self, *kinds):
        for path, tree in trees():
            for node in ast.walk(tree):
                if isinstance(node, kinds):
                    yield f"{path.name}:{getattr(node, 'lineno', 0)}", node

    def assert_none(self, wrong):
        self.assertEqual(list(wrong), [])

    def test_files(self):
        for path in FILES:
            if path.is_file():
                self.assertRegex(path.name, r"\A[a-z0-9_]+\.py\Z")
            self.assertNotIn(path.stem, ALL_BUILTINS)
        self.assertLessEqual(len(FILES), 100)

    def test_sizes_and_characters(self):
        for path, tree in trees():
            text = path.read_text(encoding="utf-8")
            lines = text.split("\n")
            self.assertLessEqual(len(lines), 400, path)
            self.assertLessEqual(max(map(len, lines)), 120, path)
            self.assertTrue(all(sign == "\n" or " " <= sign <= "~" for sign in text), path)
            for node in ast.walk(tree):
                if isinstance(node, ast.FunctionDef):
                    self.assertLessEqual(node.end_lineno - node.lineno + 1, 40, f"{path.name} {node.name}")

    def test_imports(self):
        self.assert_none(self.each_node(ast.Import))
        for at, node in self.each_node(ast.ImportFrom):
            names = {alias.name for alias in node.names}
            if node.module in LIBRARY:
                self.assertLessEqual(names, LIBRARY[node.module], at)
                self.assertTrue(all(alias.asname is None for alias in node.names), at)
            else:
                self.assertRegex(node.module, r"\Akeptlast\.[a-z_]+\Z", at)
                path = PACKAGE / f"{node.module.partition('.')[2]}.py"
                self.assertLessEqual(names, set(self.names_bound_in(ast.parse(path.read_text()))), at)

    def names_bound_in(self, tree):
        for node in tree.body:
            if isinstance(node, (ast.FunctionDef, ast.ClassDef)):
                yield node.name
            if isinstance(node, ast.Assign):
                yield node.targets[0].id

    def test_no_imports_in_a_circle(self):
        imported = {path.stem: set() for path, _ in trees()}
        for path, tree in trees():
            for node in ast.walk(tree):
                if isinstance(node, ast.ImportFrom) and node.module.startswith("keptlast."):
                    imported[path.stem].add(node.module.partition(".")[2])
        while imported:
            ready = [name for name, needed in imported.items() if not needed & set(imported)]
            self.assertTrue(ready, imported)
            for name in ready:
                del imported[name]

    def test_module_level(self):
        for path, tree in trees():
            bound = []
            for at, node in enumerate(tree.body):
                docstring = at == 0 and isinstance(node, ast.Expr)
                allowed = (ast.ImportFrom, ast.FunctionDef, ast.ClassDef, ast.Assign)
                self.assertTrue(docstring or isinstance(node, allowed), f"{path.name}:{node.lineno}")
                if isinstance(node, ast.ImportFrom):
                    bound += [alias.name for alias in node.names]
            bound += self.names_bound_in(tree)
            self.assertEqual(len(bound), len(set(bound)), path)

    def test_statements_and_expressions(self):
        self.assert_none(at for at, _ in self.each_node(*BARRED_NODES))

    def test_no_assignment_with_a_sign(self):
        # What operators and properties run contains none, and most functions may be run by one.
        self.assert_none(at for at, _ in self.each_node(ast.AugAssign))

    def test_decorators(self):
        for at, node in self.each_node(ast.FunctionDef, ast.ClassDef):
            for decorator in node.decorator_list:
                found = ast.unparse(decorator)
                self.assertTrue(found in ("property", "staticmethod", "classmethod") or found == f"{node.name}.setter", at)

    def test_no_annotations(self):
        for at, node in self.each_node(ast.FunctionDef, ast.arg):
            self.assertIsNone(node.returns if isinstance(node, ast.FunctionDef) else node.annotation, at)

    def test_names(self):
        for at, node in self.each_node(ast.FunctionDef, ast.ClassDef, ast.arg, ast.Name, ast.Attribute):
            name = next(getattr(node, part) for part in ("name", "arg", "id", "attr") if hasattr(node, part))
            self.assertNotIn(name, NAMES_NOT_USED, at)
            self.assertRegex(name, r"\A(_?[A-Za-z][A-Za-z0-9_]*|_|__[a-z]+__)\Z", at)
            if name.startswith("__"):
                self.assertIn(name, DUNDERS, at)

    def test_no_builtin_is_used_or_hidden_that_is_not_listed(self):
        for at, node in self.each_node(ast.Name):
            if node.id in ALL_BUILTINS:
                self.assertIn(node.id, BUILTINS, at)
                self.assertIsInstance(node.ctx, ast.Load, at)
        for at, node in self.each_node(ast.arg):
            self.assertNotIn(node.arg, ALL_BUILTINS, at)
        for path, tree in trees():
            for node in tree.body:
                if isinstance(node, (ast.FunctionDef, ast.ClassDef)):
                    self.assertNotIn(node.name, ALL_BUILTINS, path)

    def test_methods(self):
        defined = defined_names()
        for at, node in self.each_node(ast.Call):
            if isinstance(node.func, ast.Attribute):
                self.assertIn(node.func.attr, METHODS | defined, at)
                if node.func.attr == "join":
                    self.assertIsInstance(node.func.value, ast.Constant, at)

    def test_is_stands_beside_none_true_and_false(self):
        for at, node in self.each_node(ast.Compare):
            if isinstance(node.ops[0], (ast.Is, ast.IsNot)):
                self.assertIsInstance(node.comparators[0], ast.Constant, at)

    def test_numbers_and_strings(self):
        for at, node in self.each_node(ast.Constant):
            self.assertNotIsInstance(node.value, (float, complex), at)
            if isinstance(node.value, str):
                self.assertNotIn("%", node.value, at)
        for at, node in self.each_node(ast.BinOp):
            if isinstance(node.op, ast.Pow):
                self.assertIsInstance(node.right, ast.Constant, at)

    def test_sorted_takes_what_is_plainly_strings(self):
        # Amounts compare with numbers of two kinds, so nothing else may be put in order beside them.
        for at, node in self.each_node(ast.Call):
            if isinstance(node.func, ast.Name) and node.func.id in ("sorted", "min", "max") and not node.keywords:
                first = node.args[0]
                self.assertIsInstance(first, ast.ListComp, at)
                self.assertIn(ast.unparse(first.elt).partition("(")[0], ("str", "int", "len"), at)

    def test_errors_are_made_where_they_are_raised(self):
        for at, node in self.each_node(ast.Raise):
            if node.exc is not None:
                self.assertIsInstance(node.exc, ast.Call, at)
                self.assertIsInstance(node.exc.func, ast.Name, at)

    def test_own_errors_are_caught(self):
        for at, node in self.each_node(ast.ExceptHandler):
            for error in node.type.elts if isinstance(node.type, ast.Tuple) else [node.type]:
                self.assertIsInstance(error, ast.Name, at)
                self.assertNotIn(error.id, ALL_BUILTINS, at)

    def test_items_come_with_iteration(self):
        for at, node in self.each_node(ast.ClassDef):
            methods = {part.name: part for part in node.body if isinstance(part, ast.FunctionDef)}
            if "__getitem__" in methods:
                self.assertIsInstance(methods["__iter__"].body[0], ast.Raise, at)
                self.assertEqual(len(methods["__iter__"].body), 1, at)
        for path, _ in trees():
            for text in ["(type)", "Meta", "metaclass="]:
                self.assertNotIn(text, path.read_text(encoding="utf-8"), path)

    def test_only_what_a_function_made_is_modified(self):
        # Operators and properties change nothing, and neither does what they call: here, no function does.
        for path, tree in trees():
            for function in functions_of(tree):
                for target in modified_in(function):
                    at = f"{path.name}:{target.lineno}"
                    while isinstance(target, ast.Subscript):
                        target = target.value
                    self.assertIsInstance(target, ast.Name, at)
                    made = [node.value for node in ast.walk(function) if isinstance(node, ast.Assign)
                            and ast.unparse(node.targets[0]) == target.id]
                    self.assertTrue(made and all(is_made_here(value) for value in made), at)

    def test_attributes_are_assigned_by_changing_methods_only(self):
        changing = {"Draft": ["__init__", "undo", "copy", "_go_on"], "Trial": ["__init__", "__enter__", "__exit__"],
                    "Sheet": ["__init__", "set_form", "edit", "edit_all", "undo", "copy", "tried"],
                    "Desk": ["__init__", "do", "do_all"]}
        for _, tree in trees():
            for cls in tree.body:
                for node in ast.walk(cls):
                    if isinstance(node, ast.FunctionDef) and any(
                            isinstance(part, ast.Attribute) and isinstance(part.ctx, ast.Store) for part in ast.walk(node)):
                        self.assertIn(node.name, changing.get(cls.name, ["__init__"]), cls.name)

    def test_generators_are_iterated_at_once(self):
        names = {function.name for _, tree in trees() for function in functions_of(tree) if is_generator(function)}
        for path, tree in trees():
            for function in functions_of(tree):
                self.assertTrue(function.name not in names or is_generator(function), path)
                self.assertFalse(names & set(parameters_of(function)), path)
            allowed = [node.iter for node in ast.walk(tree) if isinstance(node, (ast.For, ast.comprehension))]
            allowed = allowed + [node.value for node in ast.walk(tree) if isinstance(node, ast.YieldFrom)]
            allowed = allowed + [node.args[0] for node in ast.walk(tree) if isinstance(node, ast.Call)
                                 and isinstance(node.func, ast.Name) and node.func.id in ITERATING and node.args]
            for node in ast.walk(tree):
                if isinstance(node, ast.Call) and isinstance(node.func, ast.Name) and node.func.id in names:
                    self.assertIn(node, allowed, f"{path.name}:{node.lineno}")

    def test_no_local_name_is_that_of_a_class_or_an_import(self):
        for path, tree in trees():
            taken = {alias.name for node in tree.body if isinstance(node, ast.ImportFrom) for alias in node.names}
            taken = taken | {node.name for node in tree.body if isinstance(node, ast.ClassDef)}
            for function in functions_of(tree):
                stored = {node.id for node in ast.walk(function) if isinstance(node, ast.Name) and isinstance(node.ctx, ast.Store)}
                self.assertFalse(taken & (stored | set(parameters_of(function))), f"{path.name} {function.name}")

    def test_comprehensions_within_others_have_names_of_their_own(self):
        for path, tree in trees():
            for outer in ast.walk(tree):
                if isinstance(outer, COMPREHENSIONS):
                    targets = [ast.unparse(part.target) for part in outer.generators]
                    for inner in ast.walk(outer):
                        if isinstance(inner, COMPREHENSIONS) and inner is not outer:
                            for part in inner.generators:
                                self.assertNotIn(ast.unparse(part.target), targets, f"{path.name}:{inner.lineno}")

    def test_nested_comprehensions_do_not_use_names_of_their_function(self):
        for path, tree in trees():
            for function in functions_of(tree):
                found = [node for node in ast.walk(function) if isinstance(node, COMPREHENSIONS)]
                targets = {name for node in found for part in node.generators for name in ast.walk(part.target)}
                assigned = {name.id for name in ast.walk(function) if isinstance(name, ast.Name)
                            and isinstance(name.ctx, ast.Store) and name not in targets} | set(parameters_of(function))
                for outer in found:
                    for inner in ast.walk(outer):
                        if isinstance(inner, COMPREHENSIONS) and inner is not outer:
                            names = {name.id for part in inner.generators for name in ast.walk(part.target) if isinstance(name, ast.Name)}
                            self.assertFalse(names & assigned, f"{path.name}:{inner.lineno}")

    def test_what_is_iterated_on_the_spot_is_not_kept(self):
        barred = {"zip", "enumerate", "reversed", "range", "items", "keys", "values", "map", "iter", "set", "frozenset"}
        for at, node in self.each_node(ast.Assign, ast.Return):
            if isinstance(node.value, ast.Call):
                self.assertNotIn(ast.unparse(node.value.func).rpartition(".")[2], barred, at)

    def test_an_underscore_is_not_read(self):
        for at, node in self.each_node(ast.Name):
            self.assertFalse(node.id == "_" and isinstance(node.ctx, ast.Load), at)

    def test_a_finally_only_puts_back(self):
        for at, node in self.each_node(ast.Try):
            for row in node.finalbody:
                self.assertRegex(ast.unparse(row), r"\Aself\._[a-z]+ = [a-z]+\Z", at)

    def test_words_that_do_not_occur_in_strings(self):
        for path, tree in trees():
            docstrings = [node.body[0].value for node in ast.walk(tree) if isinstance(node, (ast.Module, ast.ClassDef, ast.FunctionDef))
                          and isinstance(node.body[0], ast.Expr)]
            for node in ast.walk(tree):
                if isinstance(node, ast.Constant) and isinstance(node.value, str) and node not in docstrings:
                    self.assertFalse(WORDS_NOT_USED & set(node.value.replace(".", " ").split()), f"{path.name}:{node.lineno}")

    def test_words_that_do_not_occur(self):
        for at, node in self.each_node(ast.Name, ast.Attribute, ast.FunctionDef, ast.ClassDef, ast.arg, ast.keyword):
            name = next(getattr(node, part) for part in ("name", "arg", "id", "attr") if hasattr(node, part))
            self.assertNotIn(name, WORDS_NOT_USED, at)

    def test_properties_have_names_of_their_own(self):
        properties, methods = set(), set()
        for _, node in self.each_node(ast.ClassDef):
            for part in node.body:
                if isinstance(part, ast.FunctionDef):
                    decorated = [ast.unparse(one) for one in part.decorator_list]
                    is_property = "property" in decorated or f"{part.name}.setter" in decorated
                    (properties if is_property else methods).add(part.name)
        self.assertFalse(properties & methods)
        self.assertFalse(properties & METHODS)
        for at, node in self.each_node(ast.Attribute):
            if isinstance(node.ctx, ast.Store):
                # Several classes may use one name for a method and for an attribute; here none does.
                self.assertNotIn(node.attr, methods, at)

    def test_documented(self):
        for path, tree in trees():
            self.assertIsNotNone(ast.get_docstring(tree), path)
            for node in tree.body:
                if isinstance(node, ast.ClassDef):
                    self.assertIsNotNone(ast.get_docstring(node), f"{path.name} {node.name}")
