"""The rules for the package's own files, as far as a program can look them up, and where the interface is defined."""

import ast
import builtins
import re
import unittest
from pathlib import Path

FOLDER = Path(__file__).resolve().parent.parent / "fragweave"
FILES = {path.stem: path.read_text(encoding="utf-8") for path in sorted(FOLDER.glob("*.py"))}
TREES = {name: ast.parse(text) for name, text in FILES.items()}

# What has landed of the interface, by files.
INTERFACE = {
    "bounds": "SIZE PIECES VALUE STATES FALSE TRUE BATCH",
    "pieces": "is_piece is_row end_of places_of value_at over stretched",
    "rowtexts": "piece_text row_text parse_piece parse_row",
    "tables": "table_error entry_of told_table",
    "readertexts": "table_text parse_table",
    "readers": "Reader",
    "places": "steps_at owner_at value_read",
    "reading": "end_that_counts is_whole read_moment Reading",
    "classes": "is_in",
    "types": "first_type letters_of next_type is_type",
    "alike": "are_alike find_alike alike_holds unlike_row",
    "orders": "find_order order_holds",
    "twices": "find_twice twice_holds",
    "tidy": "find_tidy tidy_holds",
    "tidiers": "Tidier",
    "rights": "wrong_row right_from price_of find_right right_holds",
    "covers": "find_cover cover_holds",
    "settled": "distances settled sure_at",
    "changes": "find_changes changes_hold",
    "merging": "alike_states trimmed merged",
    "mending": "mend_numbers mends",
    "orderings": "orders_read weaves_read",
    "making": "mirrored mirrored_row renumbered then_table blinded",
    "rules": "Rule",
    "telling": "groups_of apart_by find_packet packet_holds",
    "houses": "House StrictHouse",
    "consoles": "Console",
}
METHODS = {
    "Reader": "__init__ parse table mark when __call__ __eq__ __str__",
    "Reading": "__init__ put back row told owners states copy __len__ __eq__",
    "Tidier": "__init__ put back row passed copy __len__",
    "Rule": "__init__ table then __call__ __getitem__ __contains__ __invert__ __len__ __eq__ __str__ __iter__",
    "House": "__init__ is_name reader room patience come wait close undo attempt time version told lost open_names pieces_of "
             "edits copy __getitem__ __contains__ __len__ __eq__ __str__ __iter__",
    "StrictHouse": "__init__ come copy",
    "Console": "__init__ execute __call__",
}

STATEMENTS = (
    ast.Assign, ast.AugAssign, ast.AnnAssign, ast.If, ast.While, ast.For, ast.Return, ast.Break, ast.Continue, ast.Pass,
    ast.Raise, ast.Assert, ast.Delete, ast.Nonlocal, ast.Match, ast.With, ast.Try, ast.Expr, ast.FunctionDef,
    ast.ClassDef, ast.ImportFrom)
BUILTINS = set(
    "len range enumerate zip min max sum abs sorted reversed int str bool list tuple dict set isinstance ord repr any all "
    "divmod pow map iter next super property staticmethod classmethod NotImplemented Exception ValueError TypeError "
    "KeyError IndexError LookupError ZeroDivisionError type".split())
DUNDERS = set(
    "init eq repr str len enter exit call iter contains getitem setitem invert neg pos abs bool lt le gt ge ne".split())
METHODS_OF_VALUES = set(
    "append clear copy count endswith extend find get index insert isalnum isalpha isdigit islower isspace isupper items "
    "join keys ljust lower lstrip partition pop remove replace reverse rfind rjust rpartition rsplit rstrip setdefault "
    "split splitlines startswith strip update upper values zfill bit_length title capitalize swapcase casefold center "
    "removeprefix removesuffix isascii isdecimal isnumeric sort add discard".split())
BARRED_NAMES = set(
    "register mro elements open input law version_info with_traceback add_note attrgetter breakpoint builtins compile "
    "copyright credits delattr dir eval exec exit gc globals help id importlib license locals methodcaller os quit "
    "vars".split())
BARRED_WORDS = set(
    "type typing typing_extensions enum Enum IntEnum StrEnum Flag IntFlag Generic Protocol ABC ABCMeta namedtuple "
    "NamedTuple TypedDict TYPE_CHECKING abstractmethod".split())
# Indexes with a star, and stars that stand ahead of an index, behind it, or in no index at all.
STARRED_INDEXES = (
    "a[*b]", "a[(*b, 1)]", "a[((1, 2), *b[c], 3)]", "a[b(*c)]", "a[b][c(*b)]", "a[b(*c)][b]", "a[b.c(1, *c)]", "a[[1, *b][0]:]",
    "a[:b(*c)]", "a[b(**c)]", "a[b({**c})]", "a[(1, (2, (*b, 3)))]", "a[[b for b, *rest in c][0]]", "a[1, *b]")
OTHER_STARS = (
    "d = (*b[c], 1)\na[d] = True", "n = b(*c)\na[n] = 1", "[*a[1:], b[2]]", "a(*b)[c]", "(*a, 1)[0]", "{**a, 1: b[c]}",
    "a[b * c]", "a[b ** 2]", "first, *rest = a[b]", "[*a][b]", "def told(*rest):\n    return rest[0]")
# "_" is there only once something was shown by Python's prompt, or by a doctest.
NAMES_OF_PYTHON = set(dir(builtins)) - {"_"}
LIBRARY = ("heapq", "math", "itertools", "collections")


def nodes(kind):
    """Each node of a kind, with the name of its file."""
    return [(name, node) for name, tree in TREES.items() for node in ast.walk(tree) if isinstance(node, kind)]


def defined(tree):
    """The names that a file defines at module level."""
    names = {node.name for node in tree.body if isinstance(node, (ast.FunctionDef, ast.ClassDef))}
    return names | {target.id for node in tree.body if isinstance(node, ast.Assign) for target in node.targets}


def imported(tree):
    """The names of the files of the package from which a file imports."""
    modules = [node.module for node in tree.body if isinstance(node, ast.ImportFrom)]
    return [module.removeprefix("fragweave.") for module in modules if module.startswith("fragweave.")]


def bound_names(tree):
    """The names that functions, classes, parameters and variables of a file have."""
    for node in ast.walk(tree):
        if isinstance(node, ast.FunctionDef):
            yield from [argument.arg for argument in ast.walk(node.args) if isinstance(argument, ast.arg)]
        if isinstance(node, ast.ClassDef):
            yield node.name
        if isinstance(node, ast.Name) and isinstance(node.ctx, ast.Store):
            yield node.id
    yield from [node.name for node in tree.body if isinstance(node, ast.FunctionDef)]


def own_methods():
    """The names of the methods of the package's classes."""
    return {method.name for _, made in nodes(ast.ClassDef) for method in made.body if isinstance(method, ast.FunctionDef)}


def parents(tree):
    """A dict from each node of a tree to the node above it."""
    return {child: node for node in ast.walk(tree) for child in ast.iter_child_nodes(node)}


def called_name(node):
    """The name that is called by a node, None if there is none."""
    return node.func.id if isinstance(node, ast.Call) and isinstance(node.func, ast.Name) else None


class Interface(unittest.TestCase):
    def test_each_name_is_defined_in_its_file(self):
        for name, words in INTERFACE.items():
            self.assertLessEqual(set(words.split()), defined(TREES[name]), name)

    def test_each_method_is_defined_in_its_class(self):
        for name, made in nodes(ast.ClassDef):
            found = {method.name for method in made.body if isinstance(method, ast.FunctionDef)}
            self.assertLessEqual(set(METHODS.get(made.name, "").split()), found, name)


class Files(unittest.TestCase):
    def test_nothing_else_is_in_the_folder(self):
        found = [path.name for path in FOLDER.iterdir() if path.name != "__pycache__"]
        self.assertTrue(all(re.fullmatch("[a-z_]+[.]py", name) for name in found), found)
        self.assertIn("__init__.py", found)

    def test_sizes_and_characters(self):
        for name, text in FILES.items():
            lines = text.split("\n")
            self.assertLessEqual(len(lines), 399, name)
            self.assertLessEqual(max(map(len, lines)), 120, name)
            self.assertTrue(all(" " <= sign <= "~" or sign == "\n" for sign in text), name)
        for name, function in nodes(ast.FunctionDef):
            self.assertLessEqual(function.end_lineno - function.lineno + 1, 40, (name, function.name))

    def test_imports(self):
        for name, node in nodes((ast.Import, ast.ImportFrom)):
            self.assertIsInstance(node, ast.ImportFrom, name)
            self.assertIn(node, TREES[name].body, name)
            self.assertTrue(all(alias.asname is None and alias.name != "*" for alias in node.names), name)
            if node.module in LIBRARY:
                continue
            self.assertTrue(node.module.startswith("fragweave.") and node.level == 0, name)
            source = TREES[node.module.removeprefix("fragweave.")]
            self.assertLessEqual({alias.name for alias in node.names}, defined(source), name)

    def test_imports_make_no_ring(self):
        left = {name: imported(tree) for name, tree in TREES.items()}
        while left:
            free = [name for name in left if not any(other in left for other in left[name])]
            self.assertNotEqual(free, [], left)
            left = {name: left[name] for name in left if name not in free}


class Rules(unittest.TestCase):
    def test_module_level(self):
        for name, tree in TREES.items():
            for node in tree.body:
                plain = isinstance(node, (ast.ImportFrom, ast.FunctionDef, ast.ClassDef, ast.Assign))
                self.assertTrue(plain or isinstance(node, ast.Expr) and isinstance(node.value, ast.Constant), name)

    def test_statements(self):
        for name, node in nodes(ast.stmt):
            self.assertIsInstance(node, STATEMENTS, (name, node.lineno))

    def test_decorators_and_double_underscores(self):
        for name, function in nodes(ast.FunctionDef):
            for decorator in function.decorator_list:
                text = ast.unparse(decorator)
                self.assertTrue(text in ("property", "staticmethod", "classmethod") or text.endswith(".setter"), name)
            if function.name.startswith("__"):
                self.assertIn(function.name.strip("_"), DUNDERS, name)

    def test_names(self):
        for name, tree in TREES.items():
            for bound in bound_names(tree):
                self.assertNotIn(bound, NAMES_OF_PYTHON, name)
                self.assertNotIn(bound, BARRED_NAMES, name)
        for name, node in nodes(ast.Name):
            if node.id in NAMES_OF_PYTHON:
                self.assertIn(node.id, BUILTINS, (name, node.lineno))

    def test_one_meaning_for_each_name(self):
        for name, tree in TREES.items():
            brought = [alias.name for node in tree.body if isinstance(node, ast.ImportFrom) for alias in node.names]
            self.assertEqual(len(brought), len(set(brought)), name)
            self.assertEqual(set(brought) & set(bound_names(tree)), set(), name)

    def test_methods(self):
        known = METHODS_OF_VALUES | own_methods()
        for name, node in nodes(ast.Call):
            if isinstance(node.func, ast.Attribute):
                self.assertIn(node.func.attr, known, (name, node.lineno))

    def test_is(self):
        for name, node in nodes(ast.Compare):
            for sign, side in zip(node.ops, node.comparators, strict=True):
                if isinstance(sign, (ast.Is, ast.IsNot)):
                    self.assertIsInstance(side, ast.Constant, (name, node.lineno))

    def test_no_floats_and_no_generator_expressions(self):
        for name, node in nodes((ast.Div, ast.GeneratorExp, ast.Await, ast.AsyncFor)):
            self.fail((name, ast.dump(node)[:80]))
        for name, node in nodes(ast.Constant):
            self.assertNotIsInstance(node.value, (float, complex), name)

    def test_what_is_iterated_at_once(self):
        takers = set("list tuple dict sorted sum any all enumerate zip min max".split())
        for name, tree in TREES.items():
            above = parents(tree)
            for node in ast.walk(tree):
                if called_name(node) in ("range", "zip", "enumerate", "reversed"):
                    parent = above[node]
                    at_once = isinstance(parent, (ast.For, ast.comprehension)) and parent.iter is node
                    self.assertTrue(at_once or called_name(parent) in takers, (name, node.lineno))

    def test_sets(self):
        for name, tree in TREES.items():
            above = parents(tree)
            for node in ast.walk(tree):
                if isinstance(node, (ast.Set, ast.SetComp)) or called_name(node) in ("set", "frozenset"):
                    parent = above[node]
                    told = called_name(parent) in ("sorted", "len") or isinstance(parent, (ast.Compare, ast.Assign))
                    self.assertTrue(told, (name, node.lineno))

    def test_stars_in_calls(self):
        for name, call in nodes(ast.Call):
            starred = [part.value for part in call.args if isinstance(part, ast.Starred)]
            for part in starred:
                self.assertIsInstance(part, (ast.Name, ast.List, ast.Tuple), (name, call.lineno))
            if starred:
                for part in [one for one in call.args if not isinstance(one, ast.Starred)]:
                    self.assertIsInstance(part, (ast.Name, ast.Constant), (name, call.lineno))

    def test_no_star_in_an_index(self):
        for name, tree in TREES.items():
            self.assertEqual(stars_in_indexes(tree), [], name)

    def test_stars_in_indexes_are_found(self):
        for text in STARRED_INDEXES:
            for row in (text, f"{text} = 1", f"del {text}", f"def told(a, b, c):\n    return [{text}]",
                        f"class Box:\n    def told(self, a, b, c):\n        {text} += 1"):
                self.assertEqual(len(stars_in_indexes(ast.parse(row))), 1, row)
        for text in OTHER_STARS:
            self.assertEqual(stars_in_indexes(ast.parse(text)), [], text)

    def test_methods_by_their_signs(self):
        for name, made in nodes(ast.ClassDef):
            found = {method.name: method for method in made.body if isinstance(method, ast.FunctionDef)}
            if "__getitem__" in found:
                self.assertIsInstance(found["__iter__"].body[-1], ast.Raise, name)
            for sign in set(found) & {"__getitem__", "__contains__", "__invert__"}:
                wanted = {"__getitem__": ["self", "at"], "__contains__": ["self", "x"], "__invert__": ["self"]}[sign]
                self.assertEqual([argument.arg for argument in found[sign].args.args], wanted, name)
        for name, text in FILES.items():
            for barred in ("(type)", "Meta", "metaclass=", "_wall", "keys()"):
                self.assertNotIn(barred, text, name)

    def test_texts_and_lengths(self):
        for name, function in nodes(ast.FunctionDef):
            if function.name in ("__str__", "__repr__", "__len__", "__eq__"):
                self.assertIsInstance(function.body[-1], ast.Return, name)
                found = [node for node in ast.walk(function) if isinstance(node, (ast.Assign, ast.AugAssign, ast.AnnAssign))]
                self.assertEqual(found, [], name)
            for node in [node for node in ast.walk(function) if isinstance(node, ast.Return)]:
                if function.name in ("__str__", "__repr__"):
                    self.assertTrue(isinstance(node.value, ast.JoinedStr) or called_name(node.value) in ("str", "repr"), name)
                if function.name == "__len__":
                    self.assertEqual(called_name(node.value), "len", name)

    def test_finally(self):
        for name, node in nodes(ast.Try):
            for part in [part for row in node.finalbody for part in ast.walk(row) if isinstance(part, ast.stmt)]:
                self.assertIsInstance(part, (ast.Assign, ast.If), (name, part.lineno))
            for part in [part for row in node.finalbody for part in ast.walk(row)]:
                self.assertNotIsInstance(part, (ast.Call, ast.Subscript, ast.BinOp), name)

    def test_words(self):
        for name, tree in TREES.items():
            bare = "\n".join(ast.unparse(node) for node in without_docstrings(tree).body)
            bare = re.sub(r"\btype\((\w+)\)\.__name__", r"\1", bare)
            self.assertEqual(BARRED_WORDS & set(re.findall(r"\w+", bare)), set(), name)
            self.assertTrue(all("%" not in text for text in strings_of(tree)), name)


def is_star(node):
    """Whether a node has a star, or two, ahead of what is spread."""
    return (isinstance(node, ast.Starred) or isinstance(node, ast.keyword) and node.arg is None
            or isinstance(node, ast.Dict) and None in node.keys)


def stars_in_indexes(tree):
    """The lines of the subscripts with a star anywhere within their brackets."""
    return [node.lineno for node in ast.walk(tree) if isinstance(node, ast.Subscript)
            and any(is_star(part) for part in ast.walk(node.slice))]


def without_docstrings(tree):
    """A copy of a tree without its docstrings."""
    tree = ast.parse(ast.unparse(tree))
    for node in ast.walk(tree):
        if isinstance(node, (ast.Module, ast.FunctionDef, ast.ClassDef)) and ast.get_docstring(node) is not None:
            node.body = node.body[1:] or [ast.Pass()]
    return tree


def strings_of(tree):
    """The strings of a tree, its docstrings left out."""
    return [node.value for node in ast.walk(without_docstrings(tree))
            if isinstance(node, ast.Constant) and isinstance(node.value, str)]


if __name__ == "__main__":
    unittest.main()
