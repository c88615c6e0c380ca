"""The form of the code: what LANGUAGE.md's rules let a program look for, and where the interface puts things."""

import ast
import pathlib
import re
import unittest
import warnings

PACKAGE = pathlib.Path(__file__).resolve().parent.parent / "takesworks"
INTERFACE = {
    "errors": ["NotSuch", "Lost", "Taken", "NoDay", "NoLength", "NoName", "NoEntry", "Same", "NoText", "NoLine",
               "NoCustom", "NoDisc", "NoNumber", "Struck", "NoKey", "NoPath", "Twice"],
    "days": ["Day", "earliest", "latest", "may_be", "by_day"],
    "lengths": ["Length", "together", "apart"],
    "customs": ["Custom"],
    "names": ["is_name"],
    "namebook": ["Names"],
    "entries": ["is_entry", "field_of"],
    "rules": ["are_rules", "alike", "agree", "why"],
    "takes": ["takes", "joined", "shows_joined", "shows_parted"],
    "clashing": ["clashes_in"],
    "listings": ["Listing"],
    "works": ["is_work", "leaves", "path_to", "part_at", "span_of"],
    "ordering": ["most_in_order", "heights", "shows_most"],
    "discs": ["Disc"],
    "shelves": ["Shelf"],
    "wishes": ["fewest_discs", "shows_held"],
    "books": ["book_of", "shows_none"],
    "showing": ["show_entry", "show_work"],
    "reading": ["read_day", "read_length", "read_name", "read_entry", "read_disc", "read_work", "read_listing"],
    "desk": ["Desk"],
}
METHODS = {
    "Custom": ["letters_in", "bare", "rank", "in_order", "shown", "read"],
    "Names": ["tell", "strike", "are_one", "class_of", "classes", "chain", "shows_chain", "shows_apart", "called"],
    "Listing": ["put", "told", "joined", "entries", "clashes", "__len__", "__eq__", "__str__", "__repr__"],
    "Disc": ["__init__", "__len__", "__eq__", "__str__", "__repr__"],
    "Shelf": ["put", "one", "same", "lay", "undo", "leaning", "takes", "joined", "entries", "discs", "classes", "clashes",
              "leads", "rows_of", "rows_of_take", "played", "titles_in", "discs_for", "__init__", "__len__"],
    "Desk": ["__init__", "say"],
}
BUILTINS = set("""len range enumerate zip min max sum abs sorted reversed int str bool bytes list tuple dict set
    isinstance ord repr any all divmod iter next super property staticmethod classmethod Exception ValueError TypeError
    KeyError IndexError LookupError ZeroDivisionError ArithmeticError OverflowError RuntimeError NotImplementedError
    AttributeError StopIteration NotImplemented""".split())
BUILTIN_METHODS = set("""append clear copy count endswith extend find get index insert isalnum isalpha isdigit islower
    isspace isupper items join keys ljust lower lstrip partition pop remove replace reverse rfind rjust rpartition
    rsplit rstrip setdefault split splitlines startswith strip update upper values zfill bit_length title capitalize
    swapcase casefold center expandtabs removeprefix removesuffix rindex isascii isdecimal isnumeric istitle
    isidentifier isprintable add discard sort""".split())
DOUBLE = set("__init__ __eq__ __repr__ __str__ __len__".split())
BARRED_WORDS = r"""\b(type|typing|typing_extensions|enum|Enum|IntEnum|StrEnum|Flag|IntFlag|Generic|Protocol|ABC|ABCMeta
    |namedtuple|NamedTuple|TypedDict|TYPE_CHECKING|abstractmethod)\b|dataclass|overload|contextmanager"""
BARRED_NAMES = set("register mro elements open input law version_info with_traceback add_note format".split())
MODULE_LEVEL = (ast.ImportFrom, ast.FunctionDef, ast.ClassDef, ast.Assign, ast.Expr)


def files():
    return sorted(PACKAGE.glob("*.py"))


def trees():
    return [(path, ast.parse(path.read_text())) for path in files()]


def nodes(kinds):
    """Each node of these kinds, with where it stands."""
    for path, tree in trees():
        for node in ast.walk(tree):
            if isinstance(node, kinds):
                yield f"{path.name}:{getattr(node, 'lineno', 0)}", node


def defined_in(tree):
    return [node.name for node in tree.body if isinstance(node, (ast.FunctionDef, ast.ClassDef))]


def assigned_in(tree):
    return [target.id for node in tree.body if isinstance(node, ast.Assign) for target in node.targets]


def attributes_and_methods():
    """The names that classes of the package give their objects' values, and those of their methods."""
    stored = {node.attr for _, node in nodes(ast.Attribute) if isinstance(node.ctx, ast.Store)}
    methods = {node.name for _, owner in nodes(ast.ClassDef) for node in owner.body if isinstance(node, ast.FunctionDef)}
    return stored, methods


def arguments_of(node):
    return [*node.args.posonlyargs, *node.args.args, *node.args.kwonlyargs]


class Files(unittest.TestCase):
    def test_only_files_of_plain_names(self):
        for path in PACKAGE.iterdir():
            if path.name != "__pycache__":
                self.assertRegex(path.name, r"^([a-z][a-z0-9_]*|__init__|__main__)\.py$")

    def test_signs_and_sizes(self):
        for path in files():
            text = path.read_text()
            self.assertRegex(text, r"\A[ -~\n]*\Z", path.name)
            rows = text.split("\n")
            self.assertLessEqual(len(rows), 400, path.name)
            self.assertLessEqual(max(len(row) for row in rows), 120, path.name)

    def test_functions_have_at_most_40_lines(self):
        for place, node in nodes(ast.FunctionDef):
            self.assertLessEqual(node.end_lineno - node.lineno + 1, 40, place)

    def test_barred_words(self):
        for path in files():
            self.assertIsNone(re.search(BARRED_WORDS, path.read_text(), re.VERBOSE), path.name)

    def test_python_warns_of_nothing(self):
        for path in files():
            with warnings.catch_warnings():
                warnings.simplefilter("error")
                compile(path.read_text(), path.name, "exec")


class Imports(unittest.TestCase):
    def test_each_names_the_file_that_defines_it(self):
        defined = {path.stem: defined_in(tree) + assigned_in(tree) for path, tree in trees()}
        for place, node in nodes((ast.Import, ast.ImportFrom)):
            self.assertIsInstance(node, ast.ImportFrom, place)
            package, _, module = node.module.partition(".")
            self.assertEqual((package, node.level), ("takesworks", 0), place)
            for name in node.names:
                self.assertIn(name.name, defined[module], place)

    def test_no_two_files_import_from_each_other(self):
        reached = {path.stem: {node.module.partition(".")[2] for node in tree.body if isinstance(node, ast.ImportFrom)}
                   for path, tree in trees()}
        for _ in reached:
            for name in reached:
                reached[name] = reached[name].union(*[reached[other] for other in reached[name]])
        for name in reached:
            self.assertNotIn(name, reached[name])


class Code(unittest.TestCase):
    def test_module_level(self):
        for path, tree in trees():
            bound = defined_in(tree) + assigned_in(tree)
            for node in tree.body:
                self.assertIsInstance(node, MODULE_LEVEL, path.name)
                if isinstance(node, ast.ImportFrom):
                    bound += [name.asname or name.name for name in node.names]
            self.assertEqual(len(set(bound)), len(bound), path.name)

    def test_names(self):
        for place, node in nodes((ast.Name, ast.arg, ast.FunctionDef, ast.ClassDef, ast.Attribute)):
            name = [getattr(node, part) for part in ("id", "arg", "name", "attr") if hasattr(node, part)][0]
            self.assertNotIn(name, BARRED_NAMES, place)
            if name not in DOUBLE:
                self.assertRegex(name, r"^[A-Za-z][A-Za-z0-9_]*$", place)

    def test_builtins(self):
        for path, tree in trees():
            known = set(defined_in(tree))
            for node in ast.walk(tree):
                if isinstance(node, (ast.FunctionDef, ast.Lambda)):
                    known.update(argument.arg for argument in arguments_of(node))
                if isinstance(node, ast.ImportFrom):
                    known.update(name.asname or name.name for name in node.names)
                if isinstance(node, ast.Name) and isinstance(node.ctx, ast.Store):
                    known.add(node.id)
                if isinstance(node, ast.ExceptHandler) and node.name:
                    known.add(node.name)
            self.assertEqual(known & BUILTINS, set(), path.name)
            for node in ast.walk(tree):
                if isinstance(node, ast.Name) and isinstance(node.ctx, ast.Load):
                    self.assertIn(node.id, known | BUILTINS, f"{path.name}:{node.lineno}")

    def test_no_variable_has_the_name_of_a_class_or_an_import_of_its_file(self):
        for path, tree in trees():
            taken = {node.name for node in tree.body if isinstance(node, ast.ClassDef)}
            taken.update(name.asname or name.name for node in tree.body if isinstance(node, ast.ImportFrom)
                         for name in node.names)
            for node in ast.walk(tree):
                if isinstance(node, (ast.FunctionDef, ast.Lambda)):
                    self.assertEqual({argument.arg for argument in arguments_of(node)} & taken, set(), path.name)
                if isinstance(node, ast.Name) and isinstance(node.ctx, ast.Store):
                    self.assertNotIn(node.id, taken, f"{path.name}:{node.lineno}")

    def test_methods_and_attributes(self):
        stored, methods = attributes_and_methods()
        self.assertEqual(stored & methods, set())
        for place, node in nodes(ast.Attribute):
            self.assertIn(node.attr, stored | methods | BUILTIN_METHODS, place)

    def test_double_underscore_methods(self):
        for place, node in nodes(ast.FunctionDef):
            if node.name.startswith("__"):
                self.assertIn(node.name, DOUBLE, place)

    def test_is_stands_beside_none_true_false(self):
        for place, node in nodes(ast.Compare):
            for operator, right in zip(node.ops, node.comparators):
                if isinstance(operator, (ast.Is, ast.IsNot)):
                    self.assertIn(getattr(right, "value", right), (None, True, False), place)

    def test_no_float_division_or_barred_statement(self):
        barred = (ast.Div, ast.Global, ast.AsyncFunctionDef, ast.Await)
        for place, node in nodes((*barred, ast.Constant)):
            self.assertNotIsInstance(node, barred, place)
            self.assertNotIsInstance(node.value, (float, complex), place)

    def test_no_percent_sign_in_a_string(self):
        for place, node in nodes((ast.Constant, ast.JoinedStr)):
            self.assertFalse(isinstance(node, ast.Constant) and "%" in str(node.value), place)
            if isinstance(node, ast.JoinedStr):
                self.assertNotIn("%", ast.unparse(node), place)

    def test_no_generator_expression_where_a_list_is_wanted(self):
        for place, node in nodes(ast.Call):
            if getattr(node.func, "id", "") in ("any", "all", "min", "max", "sum", "sorted"):
                self.assertFalse(any(isinstance(given, ast.GeneratorExp) for given in node.args), place)


class Interface(unittest.TestCase):
    def test_each_is_defined_in_its_file(self):
        defined = {path.stem: defined_in(tree) for path, tree in trees()}
        for module, names in INTERFACE.items():
            for name in names:
                self.assertIn(name, defined[module])

    def test_each_method_stands_in_its_class(self):
        own = {node.name: [row.name for row in node.body if isinstance(row, ast.FunctionDef)]
               for _, node in nodes(ast.ClassDef)}
        for name, methods in METHODS.items():
            for method in methods:
                self.assertIn(method, own[name])


if __name__ == "__main__":
    unittest.main()
