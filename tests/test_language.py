"""The package keeps to its subset of Python: what can be seen of it at a glance."""

import ast
import builtins
import os
import re
import unittest

import tellsless

FOLDER = os.path.dirname(tellsless.__file__)
FILES = sorted(name for name in os.listdir(FOLDER) if name != "__pycache__")
BUILTINS = set("""len range enumerate zip min max sum abs sorted reversed int str bool bytes list tuple dict set isinstance
ord repr any all divmod type iter next getattr hasattr setattr map pow Exception ValueError TypeError KeyError IndexError
LookupError ZeroDivisionError NotImplemented property staticmethod classmethod super""".split())
LIBRARY = {"heapq", "math", "itertools", "collections"}
BARRED = ("typing", "enum", "dataclass", "overload", "contextmanager", "namedtuple", "metaclass", "register", "elements")
INTERFACE = {
    "houses": ["House", "paths", "ends", "node_at", "weights_at", "rounds", "is_shaped", "hopeful", "begun"],
    "programs": ["Program"],
    "running": ["house_of"],
    "speaking": ["spoken"],
    "plans": ["is_plan", "is_between", "led", "passing"],
    "joining": ["joined"],
    "referees": ["is_test", "paid"],
    "prices": ["best_paid", "prices", "are_prices", "is_against"],
    "deciding": ["decided", "can_stand", "are_alike"],
    "worths": ["asker_gets", "worth", "worth_unasked", "luck", "best_asker", "luckiest"],
    "looks": ["parting", "is_look", "gathered", "kept_questions"],
    "rooms": ["beside", "tossed", "hidden"],
    "blurring": ["blurred"],
    "tearing": ["torn"],
    "vaults": ["Vault"],
    "bounds": ["most_paid"],
    "disks": ["Disk"],
    "servers": ["Server"],
    "strangers": ["heard"],
    "machines": ["Machine", "first_rounds", "parted"],
    "mediators": ["is_mediator", "through", "is_lasting"],
    "texts": ["house_text", "read_house"],
    "sources": ["program_text", "read_program"],
    "desks": ["Desk"],
}
METHODS = {
    "Vault": ["house", "lets", "wider", "refusal"],
    "Disk": ["cells", "write", "power", "written"],
    "Server": ["path", "hear"],
    "Desk": ["tell", "undoable"],
}


def read(name):
    with open(os.path.join(FOLDER, name), "rb") as file:
        return file.read()


class Language(unittest.TestCase):
    def trees(self):
        for name in FILES:
            yield name, ast.parse(read(name))

    def test_files(self):
        self.assertIn("__init__.py", FILES)
        for name in FILES:
            self.assertRegex(name, r"^[a-z_0-9]+\.py$")
            text = read(name).decode("ascii")
            self.assertTrue(all(sign == "\n" or " " <= sign <= "~" for sign in text), name)
            lines = text.split("\n")
            self.assertLessEqual(len(lines), 399, name)
            for line in lines:
                self.assertLessEqual(len(line), 120, (name, line))

    def test_functions_are_small(self):
        for name, tree in self.trees():
            for node in ast.walk(tree):
                if isinstance(node, ast.FunctionDef):
                    self.assertLessEqual(node.end_lineno - node.lineno + 1, 40, (name, node.name))

    def test_imports(self):
        for name, tree in self.trees():
            for node in ast.walk(tree):
                self.assertNotIsInstance(node, ast.Import, name)
                if isinstance(node, ast.ImportFrom):
                    self.assertEqual(node.level, 0, name)
                    self.assertTrue(node.module in LIBRARY or node.module.startswith("tellsless."), (name, node.module))

    def test_what_is_not_used(self):
        barred = (
            ast.AsyncFunctionDef, ast.Set, ast.GeneratorExp, ast.Lambda, ast.Global, ast.Div, ast.Try, ast.With, ast.Yield,
            ast.JoinedStr,
        )
        for name, tree in self.trees():
            for node in ast.walk(tree):
                self.assertNotIsInstance(node, barred, name)
                if isinstance(node, ast.Constant):
                    self.assertNotIsInstance(node.value, (float, complex, bytes), name)
                if isinstance(node, (ast.FunctionDef, ast.ClassDef)):
                    self.assertEqual(node.decorator_list, [], name)

    def test_builtins(self):
        known = set(dir(builtins))
        for name, tree in self.trees():
            for node in ast.walk(tree):
                if isinstance(node, ast.Name) and node.id in known:
                    self.assertIn(node.id, BUILTINS, name)
                    self.assertIsInstance(node.ctx, ast.Load, name)
                if isinstance(node, (ast.FunctionDef, ast.ClassDef)):
                    self.assertNotIn(node.name, known, name)
                if isinstance(node, ast.arg):
                    self.assertNotIn(node.arg, known, name)

    def test_no_name_hides_an_import_or_a_class(self):
        for name, tree in self.trees():
            taken = {alias.name for node in tree.body if isinstance(node, ast.ImportFrom) for alias in node.names}
            taken |= {node.name for node in tree.body if isinstance(node, ast.ClassDef)}
            for node in ast.walk(tree):
                if isinstance(node, ast.Name) and isinstance(node.ctx, ast.Store):
                    self.assertNotIn(node.id, taken, name)
                if isinstance(node, ast.arg):
                    self.assertNotIn(node.arg, taken, name)

    def test_words(self):
        for name in FILES:
            text = read(name).decode("ascii")
            for word in BARRED:
                self.assertIsNone(re.search(r"\b" + word + r"\b", text), (name, word))

    def test_the_interface_stands_where_it_is_listed(self):
        for file, names in INTERFACE.items():
            tree = ast.parse(read(file + ".py"))
            defined = [node.name for node in tree.body if isinstance(node, (ast.FunctionDef, ast.ClassDef))]
            for name in names:
                self.assertIn(name, defined)

    def test_methods_stand_in_their_class(self):
        for name, tree in self.trees():
            for node in tree.body:
                if isinstance(node, ast.ClassDef) and node.name in METHODS:
                    defined = [inner.name for inner in node.body if isinstance(inner, ast.FunctionDef)]
                    for method in METHODS[node.name]:
                        self.assertIn(method, defined, name)

    def test_no_name_is_a_method_and_an_attribute(self):
        methods, attributes = set(), set()
        taken = {word for thing in ("", [], {}, 0, b"", set()) for word in dir(thing)}
        for _, tree in self.trees():
            for node in ast.walk(tree):
                if isinstance(node, ast.ClassDef):
                    methods |= {inner.name for inner in node.body if isinstance(inner, ast.FunctionDef)}
                if isinstance(node, ast.Attribute) and isinstance(node.ctx, ast.Store):
                    attributes.add(node.attr)
        methods -= {"__init__", "__eq__"}
        # A Disk has cells to be called, a Program cells to be read: so the document wants it.
        self.assertEqual(methods & attributes, {"cells"})
        self.assertEqual((methods | attributes) & taken, set())


if __name__ == "__main__":
    unittest.main()
