"""The package keeps to the small language that it is written in, as far as a reading of its files can show."""

import ast
import builtins
import os
import unittest

HERE = os.path.dirname(os.path.abspath(__file__))
PACKAGE = os.path.join(os.path.dirname(HERE), "shutnames")
INTERFACE = {
    "turns": ["is_turn", "turn_of", "turned_name", "then_turn", "back_turn", "apart_names", "rounds_of", "swaps_of"],
    "errors": ["ShutError", "NoName", "NoTurn", "NoTerm", "HasHoles", "NoFilling", "NoFacts", "NoAsk", "NotApart", "NoRule",
               "NoWeighing", "NoPaper", "NoLine", "NoUndo", "NoPlace", "BadStep", "Clash", "NotClosed", "TooLong", "NotGood",
               "NoText", "Missing"],
    "terms": ["is_term", "parts_of", "levels_of", "names_in", "holes_in", "places_of", "part_at", "put_at", "turned_term"],
    "alike": ["free_names", "level_form", "are_alike", "told_form", "replaced"],
    "fillings": ["filled", "then_filling", "keeps"],
    "facts": ["needs", "needs_behind", "holds", "parts_it"],
    "making": ["walked", "made", "lets"],
    "asks": ["Asks", "least_lots", "most_lots"],
    "patterns": ["matched"],
    "rules": ["look_rule"],
    "uses": ["steps_of", "ended"],
    "weighings": ["weight_of", "falls"],
    "texts": ["term_text", "facts_text", "ask_text", "rule_text", "filling_text", "word_of"],
    "overlaps": ["overlaps"],
    "verdicts": ["verdict", "shows"],
    "chains": ["chain_lets", "same"],
    "mending": ["mended"],
    "shelf": ["Shelf", "unpacked"],
    "reading": ["read_term", "read_facts", "read_ask", "read_rule", "read_filling", "read_word"],
    "desk": ["Desk"],
}
CLASSES = {
    "asks": {"Asks": ["put", "take", "mark", "back", "numbers", "asks", "answer", "meets", "__init__", "__len__", "__eq__",
                      "__str__"]},
    "shelf": {"Shelf": ["put", "find", "term_of", "held", "let_go", "numbers", "called", "within", "turned_all", "packed", "__init__",
                        "__len__", "__eq__"]},
    "desk": {"Desk": ["tell", "entries", "__init__"]},
}
OWN_DUNDERS = ["__init__", "__len__", "__eq__", "__str__"]
BUILTINS = set("""len range enumerate zip min max sum abs sorted reversed int str bool list tuple dict set isinstance ord repr
any all divmod ValueError KeyError IndexError LookupError ZeroDivisionError StopIteration NotImplemented""".split())
METHODS = set("""append clear copy count endswith extend find get index insert isalnum isalpha isdigit islower isspace isupper
items join keys ljust lower lstrip partition pop remove replace reverse rfind rjust rpartition rsplit rstrip setdefault split
splitlines startswith strip update upper values zfill __init__""".split())
BARRED = set("""register mro elements open input law version_info with_traceback add_note type typing enum Enum Flag Generic
Protocol ABC attrgetter breakpoint builtins compile copyright credits delattr dir eval exec exit gc globals help id importlib
license locals methodcaller os quit setattr super vars sys""".split())
STATEMENTS = (ast.Assign, ast.AugAssign, ast.If, ast.While, ast.For, ast.Return, ast.Break, ast.Continue, ast.Pass, ast.Raise,
              ast.Expr, ast.FunctionDef, ast.ClassDef, ast.ImportFrom, ast.Try)


def read_files():
    """The texts of the package's files, by their names."""
    texts = {}
    for name in sorted(os.listdir(PACKAGE)):
        if name.endswith(".py"):
            with open(os.path.join(PACKAGE, name), encoding="ascii") as file:
                texts[name[:-3]] = file.read()
    return texts


TEXTS = read_files()
TREES = {name: ast.parse(text) for name, text in TEXTS.items()}


def nodes(*kinds):
    """All nodes of these kinds, with the file's name and the line."""
    for name, tree in TREES.items():
        for node in ast.walk(tree):
            if isinstance(node, kinds):
                yield node, f"{name}:{getattr(node, 'lineno', 0)}"


def bound_names():
    """Each name that is bound anywhere."""
    for node, where in nodes(ast.Name, ast.arg, ast.FunctionDef, ast.ClassDef, ast.alias):
        if isinstance(node, ast.Name) and isinstance(node.ctx, ast.Store):
            yield node.id, where
        if isinstance(node, ast.arg):
            yield node.arg, where
        if isinstance(node, (ast.FunctionDef, ast.ClassDef, ast.alias)):
            yield node.name, where


def docstrings():
    """The nodes of all docstrings."""
    found = []
    for node, _ in nodes(ast.Module, ast.FunctionDef, ast.ClassDef):
        if node.body and isinstance(node.body[0], ast.Expr) and isinstance(node.body[0].value, ast.Constant):
            found.append(node.body[0].value)
    return found


def methods_of(classes):
    """The names of all methods of a list of classes."""
    return [node.name for made in classes for node in made.body if isinstance(node, ast.FunctionDef)]


def attributes_of(made):
    """The names of the attributes that a class gives its objects."""
    stored = [node for node in ast.walk(made) if isinstance(node, ast.Attribute) and isinstance(node.ctx, ast.Store)]
    return [node.attr for node in stored if isinstance(node.value, ast.Name) and node.value.id == "self"]


class Files(unittest.TestCase):
    def test_only_python_files(self):
        self.assertEqual([name for name in os.listdir(PACKAGE) if not name.endswith(".py") and name != "__pycache__"], [])

    def test_sizes_and_signs(self):
        for name, text in TEXTS.items():
            lines = text.split("\n")
            self.assertLessEqual(len(lines), 399, name)
            self.assertLessEqual(max(len(line) for line in lines), 120, name)
            self.assertTrue(all(sign == "\n" or " " <= sign <= "~" for sign in text), name)
        for node, where in nodes(ast.FunctionDef):
            self.assertLessEqual(node.end_lineno - node.lineno + 1, 40, where)

    def test_interface_stands_where_it_is_listed(self):
        for name, wanted in INTERFACE.items():
            defined = [node.name for node in TREES[name].body if isinstance(node, (ast.FunctionDef, ast.ClassDef))]
            self.assertEqual([word for word in wanted if word not in defined], [])
        for name, classes in CLASSES.items():
            for word, methods in classes.items():
                defined = methods_of([node for node in TREES[name].body if isinstance(node, ast.ClassDef) and node.name == word])
                self.assertEqual([method for method in methods if method not in defined], [])


class Names(unittest.TestCase):
    def test_bound_names(self):
        for name, where in bound_names():
            self.assertNotIn(name, BARRED, where)
            self.assertTrue(name in OWN_DUNDERS or not hasattr(builtins, name), where)
            self.assertTrue(name in OWN_DUNDERS or not name.startswith("__"), where)

    def test_builtins(self):
        for node, where in nodes(ast.Name):
            if hasattr(builtins, node.id):
                self.assertIn(node.id, BUILTINS, where)

    def test_locals_are_called_unlike_imports(self):
        for name, tree in TREES.items():
            top = [alias.name for node in tree.body if isinstance(node, ast.ImportFrom) for alias in node.names]
            top += [node.name for node in tree.body if isinstance(node, (ast.FunctionDef, ast.ClassDef))]
            self.assertEqual(len(top), len(set(top)), name)
            local = [node.arg for node in ast.walk(tree) if isinstance(node, ast.arg)]
            local += [node.id for node in ast.walk(tree) if isinstance(node, ast.Name) and isinstance(node.ctx, ast.Store)]
            self.assertEqual(sorted(set(top) & set(local)), [], name)

    def test_methods(self):
        own = methods_of([node for node, _ in nodes(ast.ClassDef)])
        for node, where in nodes(ast.Call):
            if isinstance(node.func, ast.Attribute):
                self.assertTrue(node.func.attr in METHODS or node.func.attr in own, where)
        # The interface calls a method of the shelf as texts call one of theirs: so that it is never called by keywords.
        self.assertEqual([name for name in own if name in METHODS and name != "__init__"], ["find"])
        for node, where in nodes(ast.Call):
            if isinstance(node.func, ast.Attribute) and node.func.attr in METHODS:
                self.assertEqual(node.keywords, [], where)

    def test_methods_are_called_unlike_attributes(self):
        classes = [node for node, _ in nodes(ast.ClassDef)]
        methods = methods_of(classes)
        for made in classes:
            self.assertEqual(len(methods_of([made])), len(set(methods_of([made]))), made.name)
            self.assertEqual([name for name in attributes_of(made) if name in methods or name in METHODS], [], made.name)


class Imports(unittest.TestCase):
    def test_imports_name_the_very_file(self):
        for node, where in nodes(ast.ImportFrom):
            self.assertEqual(node.level, 0, where)
            package, _, file = node.module.partition(".")
            self.assertEqual(package, "shutnames", where)
            for alias in node.names:
                self.assertIsNone(alias.asname, where)
                made = [one.name for one in TREES[file].body if isinstance(one, (ast.FunctionDef, ast.ClassDef))]
                made += [to.id for one in TREES[file].body if isinstance(one, ast.Assign) for to in one.targets]
                self.assertIn(alias.name, made, where)

    def test_no_rings(self):
        needs = {}
        for name, tree in TREES.items():
            needs[name] = [node.module.partition(".")[2] for node in tree.body if isinstance(node, ast.ImportFrom)]
        while needs:
            ready = [name for name, wanted in needs.items() if not [one for one in wanted if one in needs]]
            self.assertTrue(ready, needs)
            for name in ready:
                del needs[name]

    def test_what_is_imported_is_used(self):
        for name, tree in TREES.items():
            used = {node.id for node in ast.walk(tree) if isinstance(node, ast.Name)}
            for node in tree.body:
                if isinstance(node, ast.ImportFrom):
                    self.assertEqual([alias.name for alias in node.names if alias.name not in used], [], name)


class Writing(unittest.TestCase):
    def test_statements(self):
        for node, where in nodes(ast.stmt):
            self.assertIsInstance(node, STATEMENTS, where)

    def test_module_level(self):
        for name, tree in TREES.items():
            for at, node in enumerate(tree.body):
                if isinstance(node, ast.Expr):
                    self.assertEqual(at, 0, name)
                else:
                    self.assertIsInstance(node, (ast.ImportFrom, ast.FunctionDef, ast.ClassDef, ast.Assign), name)

    def test_nothing_barred(self):
        barred = (ast.GeneratorExp, ast.Yield, ast.YieldFrom, ast.Set, ast.Div, ast.Pow, ast.Global, ast.Await)
        self.assertEqual([where for _, where in nodes(*barred)], [])
        for node, where in nodes(ast.FunctionDef, ast.ClassDef):
            self.assertEqual(node.decorator_list, [], where)

    def test_texts(self):
        for node, where in nodes(ast.Constant):
            self.assertNotIsInstance(node.value, (float, complex, bytes), where)
            if isinstance(node.value, str):
                self.assertNotIn("%", node.value, where)
                if node not in docstrings():
                    self.assertEqual([word for word in node.value.split() if word in BARRED], [], where)

    def test_sets_stand_in_sorted(self):
        right = [node.args[0] for node, _ in nodes(ast.Call) if isinstance(node.func, ast.Name) and node.func.id in
                 ("sorted", "len")]
        for node, where in nodes(ast.SetComp, ast.Call):
            if isinstance(node, ast.SetComp) or isinstance(node.func, ast.Name) and node.func.id == "set":
                self.assertIn(node, right, where)

    def test_raised_on_the_spot(self):
        for node, where in nodes(ast.Raise):
            self.assertIsInstance(node.exc, ast.Call, where)


if __name__ == "__main__":
    unittest.main()
