"""The form of the package: the plain part of the language that its files keep to, and the interface that they have."""

import ast
import builtins
import importlib
import inspect
import os
import unittest

FOLDER = os.path.join(os.path.dirname(os.path.dirname(os.path.abspath(__file__))), "neverjoin")
FILES = sorted(name for name in os.listdir(FOLDER) if name != "__pycache__")
LIBRARY = {"heapq": {"heappush", "heappop"}, "math": {"gcd"}}
CALLED = {
    "len", "range", "enumerate", "zip", "min", "max", "sum", "abs", "sorted", "reversed", "int", "str", "bool", "list",
    "tuple", "dict", "set", "isinstance", "ord", "repr", "any", "all", "divmod",
}
METHODS = {
    "append", "clear", "copy", "count", "endswith", "extend", "find", "get", "index", "insert", "items", "join", "keys",
    "partition", "pop", "replace", "reverse", "setdefault", "split", "startswith", "strip", "update", "values", "bit_length",
}
NODES = (
    ast.Module, ast.Expr, ast.Constant, ast.ImportFrom, ast.alias, ast.FunctionDef, ast.ClassDef, ast.arguments, ast.arg,
    ast.Return, ast.Assign, ast.AugAssign, ast.If, ast.While, ast.For, ast.Raise, ast.Break, ast.Continue, ast.Pass,
    ast.Call, ast.keyword, ast.Name, ast.Attribute, ast.Subscript, ast.Slice, ast.Tuple, ast.List, ast.Dict, ast.ListComp,
    ast.DictComp, ast.comprehension, ast.BoolOp, ast.UnaryOp, ast.BinOp, ast.Compare, ast.IfExp, ast.expr_context,
    ast.boolop, ast.unaryop, ast.operator, ast.cmpop, ast.Lambda, ast.Try, ast.Delete, ast.JoinedStr, ast.FormattedValue,
)
KEYWORDS = {"key", "default", "reverse", "start"}
DUNDERS = {"__init__", "__eq__"}
BARRED = {"type", "typing", "enum", "register", "mro", "elements", "open", "input", "law"}
INTERFACE = {
    "webs": "Web letters after before is_stretch ends pairs surplus",
    "stretches": "many_stretches number_of stretches rings round_rings stretch_at least_ring is_ring",
    "making": "free_web ring_web turned renamed rows_web left_out",
    "likeness": "lies_in are_like unlike_text",
    "settling": "settled",
    "books": "Book clash",
    "readings": "comings readings ways reading_at is_reading words_of many_rows",
    "frames": "row_at row_number frame told_by longest_row first_with",
    "full": "is_full is_addable is_loose is_misfit all_ways addable loose misfit",
    "thin": "thin settling ways_counts",
    "lanes": "lanes lane_words turns turn since",
    "jumps": "jumps ring_book word_steps word_parts",
    "inner": "inner made barred is_barred word_count",
    "tower": "less more",
    "listing": "all_books many_books book_number book_at sizes filled cheapest",
    "towers": "layers address book_by",
    "exchanges": "put_in taken_out exchanges path is_path",
    "carried": "cut_down turned_book renamed_book composed",
    "dividing": "divided divisors",
    "chances": "shares chance mean",
    "strangers": "fooled sure_cuts lost is_all_readings",
    "walkers": "Walker",
    "stocks": "Stock",
    "climbs": "Climb",
    "texts": "web_text book_text lot_text",
    "reading": "read_web read_book read_lot",
    "desk": "Desk",
}
OWN_METHODS = {
    ("webs", "Web"): {"__init__": "points arrows", "__eq__": "other"},
    ("books", "Book"): {"__init__": "web words", "__eq__": "other"},
    ("walkers", "Walker"): {
        "__init__": "book", "take": "letter", "text": "", "many": "", "since": "", "back": "", "depth": "", "copy": "",
        "trying": "action",
    },
    ("stocks", "Stock"): {
        "__init__": "web ways", "put": "text", "drop": "text", "lot": "", "book": "", "back": "", "depth": "", "copy": "",
        "trying": "action",
    },
    ("climbs", "Climb"): {
        "__init__": "web", "book": "", "up": "number", "down": "", "put": "text", "drop": "text", "back": "", "depth": "",
        "copy": "", "trying": "action",
    },
    ("desk", "Desk"): {"__init__": "", "tell": "line", "undoable": ""},
}


def text_of(name):
    with open(os.path.join(FOLDER, name), encoding="ascii") as file:
        return file.read()


TREES = {name[:-3]: ast.parse(text_of(name)) for name in FILES}


def nodes(kind):
    return [(name, node) for name, tree in TREES.items() for node in ast.walk(tree) if isinstance(node, kind)]


def own_methods():
    return {part.name for _, node in nodes(ast.ClassDef) for part in node.body if isinstance(part, ast.FunctionDef)}


def is_plain(node):
    """Whether a value is written out, tuples within dicts being the deepest that there is."""
    if isinstance(node, ast.Dict):
        keys = all(isinstance(key, ast.Constant) for key in node.keys)
        return keys and all(is_plain(part) and not isinstance(part, ast.Dict) for part in node.values)
    return isinstance(node, ast.Constant) or isinstance(node, ast.Tuple) and all(isinstance(part, ast.Constant) for part in node.elts)


class Form(unittest.TestCase):
    def test_files(self):
        for name in FILES:
            self.assertRegex(name, r"^[a-z_]+\.py$")
            text = text_of(name)
            lines = text.split("\n")
            self.assertLess(len(lines), 400, name)
            self.assertNotRegex(text, r"[^\n -~]", name)
            for line in lines:
                self.assertLessEqual(len(line), 120, (name, line))
        self.assertLessEqual(len(FILES), 100)

    def test_functions_are_short(self):
        for name, node in nodes(ast.FunctionDef):
            self.assertLessEqual(node.end_lineno - node.lineno + 1, 40, (name, node.name))
            self.assertEqual(node.decorator_list, [])
            self.assertTrue(not node.name.startswith("__") or node.name in DUNDERS, (name, node.name))

    def test_only_plain_nodes(self):
        for name, node in nodes(ast.AST):
            self.assertIsInstance(node, NODES, (name, getattr(node, "lineno", None)))
            self.assertNotIsInstance(node, (ast.Div, ast.MatMult))
            if isinstance(node, ast.Constant):
                self.assertIn(type(node.value), (int, str, bool, type(None)))
            if isinstance(node, ast.Compare) and any(isinstance(sign, (ast.Is, ast.IsNot)) for sign in node.ops):
                self.assertIsNone(node.comparators[0].value)

    def test_imports(self):
        needs = {name: set() for name in TREES}
        for name, node in nodes(ast.ImportFrom):
            self.assertIn(node, TREES[name].body)
            words = [alias.name for alias in node.names]
            self.assertTrue(all(alias.asname is None for alias in node.names))
            if node.module in LIBRARY:
                self.assertLessEqual(set(words), LIBRARY[node.module])
                continue
            folder, module = node.module.split(".")
            self.assertEqual(folder, "neverjoin")
            defined = {part.name for part in TREES[module].body if isinstance(part, (ast.FunctionDef, ast.ClassDef))}
            defined |= {part.targets[0].id for part in TREES[module].body if isinstance(part, ast.Assign)}
            self.assertLessEqual(set(words), defined, name)
            used = {one.id for one in ast.walk(TREES[name]) if isinstance(one, ast.Name)}
            self.assertLessEqual(set(words), used, name)
            needs[name].add(module)
        while needs:
            free = [name for name in needs if not needs[name]]
            self.assertTrue(free, needs)
            needs = {name: needs[name] - set(free) for name in needs if name not in free}

    def test_names(self):
        for name, tree in TREES.items():
            imported = {alias.name for node in tree.body if isinstance(node, ast.ImportFrom) for alias in node.names}
            classes = {node.name for node in tree.body if isinstance(node, ast.ClassDef)}
            bound = [node.id for node in ast.walk(tree) if isinstance(node, ast.Name) and isinstance(node.ctx, ast.Store)]
            bound += [node.arg for node in ast.walk(tree) if isinstance(node, ast.arg)]
            for word in bound:
                self.assertNotIn(word, imported | classes | set(dir(builtins)) | BARRED, (name, word))
            top = [node.name for node in tree.body if isinstance(node, (ast.FunctionDef, ast.ClassDef))]
            self.assertEqual(len(top), len(set(top)))
            for word in top:
                self.assertNotIn(word, imported | set(dir(builtins)) | BARRED, (name, word))

    def test_calls(self):
        own = own_methods()
        for name, node in nodes(ast.Call):
            for keyword in node.keywords:
                self.assertIn(keyword.arg, KEYWORDS, (name, node.lineno))
            self.assertFalse(any(isinstance(one, ast.Starred) for one in node.args))
            if isinstance(node.func, ast.Attribute):
                self.assertIn(node.func.attr, METHODS | own, (name, node.lineno))
                continue
            self.assertIsInstance(node.func, ast.Name)
            if node.func.id in dir(builtins):
                self.assertIn(node.func.id, CALLED, (name, node.lineno))

    def test_sets_stand_in_sorted_or_len(self):
        held = {id(node.args[0]) for _, node in nodes(ast.Call) if getattr(node.func, "id", "") in ("sorted", "len")}
        for name, node in nodes(ast.Call):
            if getattr(node.func, "id", "") == "set":
                self.assertIn(id(node), held, (name, node.lineno))

    def test_ranges_and_views_are_gone_over_at_once(self):
        held = {id(node.iter) for _, node in nodes((ast.For, ast.comprehension))}
        for _, node in nodes(ast.Call):
            if getattr(node.func, "id", "") in ("sorted", "list", "tuple", "sum", "reversed", "enumerate"):
                held.add(id(node.args[0]))
        for name, node in nodes(ast.Call):
            word = getattr(node.func, "id", getattr(node.func, "attr", ""))
            if word in ("range", "zip", "enumerate", "reversed", "items", "keys", "values"):
                self.assertIn(id(node), held, (name, node.lineno))

    def test_attributes_are_assigned_or_methods(self):
        assigned = {node.attr for _, node in nodes(ast.Attribute) if isinstance(node.ctx, ast.Store)}
        for name, node in nodes(ast.Attribute):
            self.assertIn(node.attr, assigned | own_methods() | METHODS, (name, node.lineno))

    def test_module_level_is_plain(self):
        for name, tree in TREES.items():
            for node in tree.body:
                self.assertIsInstance(node, (ast.Expr, ast.ImportFrom, ast.FunctionDef, ast.ClassDef, ast.Assign))
                if isinstance(node, (ast.Expr, ast.Assign)):
                    self.assertTrue(is_plain(node.value), name)

    def test_a_finally_only_assigns(self):
        for name, node in nodes(ast.Try):
            self.assertEqual((node.handlers, node.orelse), ([], []), name)
            for part in node.finalbody:
                self.assertIsInstance(part, ast.Assign, name)
                self.assertIsInstance(part.value, ast.Name, name)

    def test_each_thing_has_a_docstring(self):
        for name, tree in TREES.items():
            self.assertTrue(ast.get_docstring(tree), name)
            for node in tree.body:
                if isinstance(node, (ast.FunctionDef, ast.ClassDef)):
                    self.assertTrue(ast.get_docstring(node), (name, node.name))


class Interface(unittest.TestCase):
    def test_names_are_defined_where_they_are_listed(self):
        for module, words in INTERFACE.items():
            found = importlib.import_module("neverjoin." + module)
            for word in words.split():
                self.assertEqual(getattr(found, word).__module__, "neverjoin." + module)

    def test_methods_are_of_the_class_itself(self):
        for (module, word), methods in OWN_METHODS.items():
            kind = getattr(importlib.import_module("neverjoin." + module), word)
            for method, names in methods.items():
                self.assertIn(method, vars(kind))
                self.assertEqual(list(inspect.signature(vars(kind)[method]).parameters), ["self"] + names.split())

    def test_arguments(self):
        listed = {
            "webs": {"Web": "points arrows", "letters": "web", "is_stretch": "web thing", "pairs": "web text"},
            "stretches": {"stretch_at": "web length number", "is_ring": "web thing", "least_ring": "web"},
            "making": {"free_web": "letters", "left_out": "letters texts", "renamed": "web names"},
            "likeness": {"lies_in": "one other", "unlike_text": "one other"},
            "books": {"Book": "web words", "clash": "texts"},
            "readings": {"reading_at": "book text place", "is_reading": "book text thing", "many_rows": "book length"},
            "frames": {"row_at": "book length number", "told_by": "book text places", "first_with": "book many"},
            "full": {
                "is_full": "book", "all_ways": "book", "addable": "book", "is_addable": "book thing", "loose": "book many",
                "is_loose": "book many thing", "misfit": "web texts", "is_misfit": "web texts thing",
            },
            "thin": {"thin": "book", "settling": "book", "ways_counts": "book length"},
            "lanes": {
                "lanes": "book ring", "lane_words": "book ring", "turns": "book length", "turn": "book ring", "since": "book ring",
            },
            "jumps": {"jumps": "book ring", "ring_book": "text jumps", "word_steps": "book", "word_parts": "book"},
            "inner": {
                "inner": "book", "made": "web lot ways", "barred": "web lot ways", "is_barred": "web lot ways thing",
                "word_count": "book",
            },
            "tower": {"less": "book", "more": "book"},
            "listing": {
                "all_books": "web ways", "many_books": "web ways", "book_number": "book", "book_at": "web ways number",
                "sizes": "web ways", "filled": "book ways", "cheapest": "web ways prices",
            },
            "towers": {"layers": "book", "address": "book", "book_by": "web address"},
            "exchanges": {
                "put_in": "book text", "taken_out": "book text", "exchanges": "book", "path": "one other",
                "is_path": "one other thing",
            },
            "carried": {"cut_down": "book web", "turned_book": "book", "renamed_book": "book names", "composed": "book other"},
            "dividing": {"divided": "book other", "divisors": "book"},
            "chances": {"shares": "web chances", "chance": "web chances text", "mean": "book chances"},
            "strangers": {
                "fooled": "book text guess", "sure_cuts": "book text", "lost": "book text other",
                "is_all_readings": "book text thing",
            },
            "texts": {"web_text": "web", "book_text": "book", "lot_text": "lot"},
            "reading": {"read_web": "text", "read_book": "text", "read_lot": "web text"},
        }
        for module, words in listed.items():
            for word, names in words.items():
                kind = getattr(importlib.import_module("neverjoin." + module), word)
                self.assertEqual(list(inspect.signature(kind).parameters), names.split())


if __name__ == "__main__":
    unittest.main()
