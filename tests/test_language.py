"""The rules of the language that can be seen in a file, as far as the program needs them."""

import ast
import io
import pathlib
import re
import tokenize
import unittest

import faults

FOLDER = pathlib.Path(__file__).resolve().parent.parent / "pergola"
FILES = sorted(FOLDER.glob("*.py"))

LIBRARY = {
    "heapq": {"heappush", "heappop", "heapify", "heapreplace", "heappushpop"},
    "math": {"gcd", "lcm", "isqrt", "comb", "perm", "factorial"},
    "itertools": {
        "product", "combinations", "permutations", "chain", "accumulate", "pairwise", "islice", "zip_longest",
    },
    "collections": {"defaultdict", "deque"},
}
BUILTINS = set(
    "len range enumerate zip min max sum abs sorted reversed int str bool list tuple dict set isinstance ord repr any "
    "all divmod pow map iter next super type property staticmethod classmethod NotImplemented Exception ValueError "
    "TypeError KeyError IndexError LookupError ZeroDivisionError ArithmeticError OverflowError RuntimeError "
    "NotImplementedError AttributeError StopIteration".split()
)
ALL_BUILTINS = set(dir(__builtins__) if not isinstance(__builtins__, dict) else __builtins__)
METHODS = set(
    "append clear copy count endswith extend find get index insert isalnum isalpha isdigit islower isspace isupper "
    "items join keys ljust lower lstrip partition pop remove replace reverse rfind rjust rpartition rsplit rstrip "
    "setdefault split splitlines startswith strip update upper values zfill bit_length add discard sort __init__ "
    "popleft appendleft extendleft rotate".split()
)
BARRED_NODES = (
    ast.AsyncFunctionDef, ast.AsyncFor, ast.AsyncWith, ast.Await, ast.Global, ast.Div, ast.MatMult, ast.Import,
)
BARRED_WORDS = re.compile(
    r"\b(mro|elements|open|input|law|version_info|with_traceback|add_note|register|eval|exec|compile|globals|locals"
    r"|typing|enum|Enum|Generic|Protocol|namedtuple|chr|float|frozenset|bytes|bytearray)\b"
)


def own_modules():
    return {f"pergola.{path.stem}" for path in FILES}


def is_table_of_functions(node, bound):
    """Whether a node is a dict from plain keys to names that are bound above it."""
    if not isinstance(node, ast.Dict) or not all(isinstance(key, ast.Constant) for key in node.keys):
        return False
    return all(isinstance(part, ast.Name) and part.id in bound for part in node.values)


class LanguageTest(unittest.TestCase):
    def setUp(self):
        self.sources = {path: path.read_text(encoding="ascii") for path in FILES}
        self.trees = {path: ast.parse(source) for path, source in self.sources.items()}

    def nodes(self, *kinds):
        for path, tree in self.trees.items():
            for node in ast.walk(tree):
                if isinstance(node, kinds):
                    yield path, node

    def test_folder(self):
        self.assertIn(FOLDER / "__init__.py", FILES)
        others = [path.name for path in FOLDER.iterdir() if path not in FILES and path.name != "__pycache__"]
        self.assertEqual(others, [])
        for path in FILES:
            self.assertRegex(path.stem, r"^(__init__|[a-z][a-z0-9_]*)$")
            self.assertNotIn(path.stem, ALL_BUILTINS)

    def test_characters_and_sizes(self):
        for path, source in self.sources.items():
            lines = source.split("\n")
            self.assertLessEqual(len(lines), 399, path)
            self.assertTrue(all(len(line) <= 120 for line in lines), path)
            self.assertTrue(all(char == "\n" or " " <= char <= "~" for char in source), path)
        for path, node in self.nodes(ast.FunctionDef):
            self.assertLessEqual(node.end_lineno - node.lineno + 1, 40, f"{path} {node.name}")

    def test_imports(self):
        own = own_modules()
        for path, tree in self.trees.items():
            for node in tree.body:
                if isinstance(node, ast.ImportFrom):
                    names = {alias.name for alias in node.names}
                    self.assertEqual(node.level, 0)
                    self.assertTrue(node.module in own or names <= LIBRARY.get(node.module, set()), path)
                    self.assertTrue(all(alias.asname is None for alias in node.names), path)
            inner = [node for node in ast.walk(tree) if isinstance(node, ast.ImportFrom) and node not in tree.body]
            self.assertEqual(inner, [], path)

    def test_imports_name_the_file_that_defines(self):
        defined = {}
        for path, tree in self.trees.items():
            here = defined.setdefault(f"pergola.{path.stem}", set())
            for node in tree.body:
                if isinstance(node, (ast.FunctionDef, ast.ClassDef)):
                    here.add(node.name)
                elif isinstance(node, ast.Assign):
                    here.update(target.id for target in node.targets)
        for path, node in self.nodes(ast.ImportFrom):
            if node.module in defined:
                for alias in node.names:
                    self.assertIn(alias.name, defined[node.module], path)

    def test_no_circle_of_imports(self):
        own = own_modules()
        seen = {}
        for path, node in self.nodes(ast.ImportFrom):
            if node.module in own:
                seen.setdefault(f"pergola.{path.stem}", set()).add(node.module)
        left = set(own)
        while left:
            free = {name for name in left if not seen.get(name, set()) & left}
            self.assertTrue(free, left)
            left -= free

    def test_module_level(self):
        for path, tree in self.trees.items():
            bound = []
            for index, node in enumerate(tree.body):
                if index == 0 and isinstance(node, ast.Expr):
                    self.assertIsInstance(node.value.value, str)
                elif isinstance(node, ast.ImportFrom):
                    bound += [alias.name for alias in node.names]
                elif isinstance(node, ast.Assign):
                    self.assertEqual(len(node.targets), 1)
                    if not is_table_of_functions(node.value, bound):
                        ast.literal_eval(node.value)
                    bound.append(node.targets[0].id)
                else:
                    self.assertIsInstance(node, (ast.FunctionDef, ast.ClassDef), path)
                    bound.append(node.name)
            self.assertEqual(len(bound), len(set(bound)), path)

    def test_statements(self):
        for path, node in self.nodes(*BARRED_NODES):
            self.fail(f"{path} {node.lineno} {type(node).__name__}")
        for path, node in self.nodes(ast.Constant):
            self.assertNotIsInstance(node.value, (float, complex, bytes), path)
        for path, node in self.nodes(ast.FunctionDef):
            self.assertEqual(node.decorator_list, [], path)

    def test_names(self):
        """Names are no builtins, and no parameter or variable hides what its file binds."""
        for path, tree in self.trees.items():
            bound = {alias.name for node in tree.body if isinstance(node, ast.ImportFrom) for alias in node.names}
            bound |= {node.name for node in tree.body if isinstance(node, ast.ClassDef)}
            for node in ast.walk(tree):
                names = []
                if isinstance(node, ast.arg):
                    names = [node.arg]
                if isinstance(node, ast.Name) and not isinstance(node.ctx, ast.Load):
                    names = [node.id]
                if isinstance(node, (ast.FunctionDef, ast.ClassDef)):
                    self.assertNotIn(node.name, ALL_BUILTINS, path)
                for name in names:
                    self.assertNotIn(name, bound, path)
                    self.assertNotIn(name, ALL_BUILTINS, path)

    def test_builtins(self):
        for path, node in self.nodes(ast.Name):
            if node.id in ALL_BUILTINS:
                self.assertIn(node.id, BUILTINS, f"{path} {node.lineno}")

    def test_methods(self):
        own = {node.name for _, node in self.nodes(ast.FunctionDef)}
        for path, node in self.nodes(ast.Call):
            if isinstance(node.func, ast.Attribute):
                self.assertIn(node.func.attr, METHODS | own, f"{path} {node.lineno}")

    def test_attributes(self):
        """No attribute has a name that is barred, or that of a method of its class."""
        barred = set(
            "items keys values pop update append clear extend insert remove reverse setdefault sort args encode decode "
            "hex fromhex format format_map mro".split()
        )
        for path, node in self.nodes(ast.ClassDef):
            methods = {part.name for part in node.body if isinstance(part, ast.FunctionDef)}
            for part in ast.walk(node):
                if isinstance(part, ast.Attribute) and not isinstance(part.ctx, ast.Load):
                    self.assertNotIn(part.attr, barred | methods, f"{path} {part.lineno}")

    def test_attributes_of_other_classes(self):
        """No attribute of any class has the name of a method of another one."""
        methods = {part.name for _, node in self.nodes(ast.ClassDef) for part in node.body if isinstance(part, ast.FunctionDef)}
        for path, node in self.nodes(ast.Attribute):
            if not isinstance(node.ctx, ast.Load):
                self.assertNotIn(node.attr, methods, f"{path} {node.lineno}")

    def test_stars_in_calls(self):
        """L7: behind a star in a call stand only names and attributes off a name."""
        for path, node in self.nodes(ast.Call):
            for argument in node.args:
                if isinstance(argument, ast.Starred):
                    self.assertIsInstance(argument.value, (ast.Name, ast.Attribute), f"{path} {node.lineno}")
            self.assertTrue(all(keyword.arg for keyword in node.keywords), f"{path} {node.lineno}")

    def test_local_functions(self):
        """No parameter or local variable has the name of a function of its file."""
        for path, tree in self.trees.items():
            functions = {node.name for node in tree.body if isinstance(node, ast.FunctionDef)}
            for node in ast.walk(tree):
                name = node.arg if isinstance(node, ast.arg) else ""
                if isinstance(node, ast.Name) and not isinstance(node.ctx, ast.Load):
                    name = node.id
                self.assertNotIn(name, functions, path)

    def test_generator_expressions(self):
        for path, tree in self.trees.items():
            for node in ast.walk(tree):
                if isinstance(node, (ast.GeneratorExp, ast.Yield, ast.YieldFrom)):
                    self.fail(f"{path} {node.lineno}: take a list")

    def test_what_is_walked_on_the_spot(self):
        """L23: no range, zip, enumerate, reversed or view of a dict is handed to a function, kept or returned."""
        for path, source in self.sources.items():
            self.assertEqual(faults.walked_faults(source), [], path)

    def test_no_star_in_the_brackets_of_a_subscript(self):
        for path, source in self.sources.items():
            self.assertEqual(faults.star_faults(source), [], path)

    def test_loops_and_comprehensions(self):
        """L23, L7: nothing that is iterated over is changed, and inner comprehensions have names of their own."""
        for path, source in self.sources.items():
            self.assertEqual(faults.loop_faults(source), [], path)
            self.assertEqual(faults.nested_faults(source), [], path)

    def test_tables_and_sets(self):
        """L15, L24: lists and dicts of the module level are only read, and sets do not stay."""
        for path, source in self.sources.items():
            self.assertEqual(faults.table_faults(source), [], path)
            self.assertEqual(faults.set_faults(source), [], path)

    def test_is(self):
        for path, node in self.nodes(ast.Compare):
            for sign, part in zip(node.ops, node.comparators):
                if isinstance(sign, (ast.Is, ast.IsNot)):
                    self.assertIsInstance(part, ast.Constant, f"{path} {node.lineno}")

    def test_errors(self):
        """Own errors alone are raised, on the spot, and caught."""
        own = {node.name for path, node in self.nodes(ast.ClassDef) if path.stem == "errors"}
        for path, node in self.nodes(ast.Raise):
            self.assertIsInstance(node.exc, ast.Call, f"{path} {node.lineno}")
            self.assertIn(node.exc.func.id, own, f"{path} {node.lineno}")
        for path, node in self.nodes(ast.ExceptHandler):
            for part in node.type.elts if isinstance(node.type, ast.Tuple) else [node.type]:
                self.assertIn(part.id, own, f"{path} {node.lineno}")

    def test_keywords(self):
        """No keyword is given to a method, and to builtins only those that they may take."""
        allowed = {("max", "default"), ("min", "default"), ("enumerate", "start"), ("sum", "start"), ("sorted", "key"), ("sorted", "reverse")}
        for path, node in self.nodes(ast.Call):
            for keyword in node.keywords:
                self.assertIsInstance(node.func, ast.Name, f"{path} {node.lineno}")
                if node.func.id in ALL_BUILTINS:
                    self.assertIn((node.func.id, keyword.arg), allowed, f"{path} {node.lineno}")

    def test_strings(self):
        docs = set()
        for _, node in self.nodes(ast.Module, ast.FunctionDef, ast.ClassDef):
            first = node.body[0] if node.body else None
            if isinstance(first, ast.Expr) and isinstance(first.value, ast.Constant):
                docs.add(first.value)
        for path, node in self.nodes(ast.Constant):
            if isinstance(node.value, str) and node not in docs:
                self.assertNotIn("%", node.value, path)
                self.assertNotIn("__", node.value, path)

    def test_words(self):
        for path, source in self.sources.items():
            for token in tokenize.generate_tokens(io.StringIO(source).readline):
                if token.type == tokenize.NAME:
                    self.assertIsNone(BARRED_WORDS.search(token.string), f"{path} {token.start}")
                    self.assertNotRegex(token.string, r"^_[^a-z_]", path)

    def test_lambdas(self):
        for path, tree in self.trees.items():
            lines = {}
            for node in ast.walk(tree):
                if isinstance(node, ast.Lambda):
                    names = [arg.arg for arg in node.args.args]
                    self.assertNotIn(names, lines.setdefault(node.lineno, []), path)
                    lines[node.lineno].append(names)


class FaultsTest(unittest.TestCase):
    """What finds such faults finds them."""

    def test_handed_to_a_function(self):
        given = ["range(3)", "range(len(xs))", "zip(xs, xs)", "enumerate(xs)", "reversed(xs)"]
        given += ["d.items()", "d.keys()", "d.values()"]
        for text in given:
            for call in [f"own({text})", f"own(xs, {text})", f"own(xs, by={text})", f"box.own({text})", f"own([{text}])"]:
                source = f"def f(xs, d, box):\n    return {call}\n"
                self.assertEqual(faults.walked_faults(source), [2], call)
            self.assertEqual(faults.walked_faults(f"def f(xs, d):\n    return {text}\n"), [2])
            self.assertEqual(faults.walked_faults(f"def f(xs, d):\n    d[1] = {text}\n"), [2])

    def test_walked(self):
        for text in ["[x for x in range(3)]", "list(zip(xs, xs))", "own(list(range(3)))", "sorted(d.items())",
                     "max(range(3))", "len(range(3))", "list(reversed(range(3)))", "2 in range(3)", "sum(d.values())"]:
            self.assertEqual(faults.walked_faults(f"def f(xs, d):\n    return {text}\n"), [], text)
        self.assertEqual(faults.walked_faults("def f(xs):\n    for x, y in zip(xs, xs):\n        own(x)\n"), [])

    def test_kept(self):
        start = "def f(xs):\n    kept = range(3)\n"
        for row, lines in [("[x for x in kept]", []), ("list(kept)", []), ("len(kept)", []), ("kept[0]", []),
                           ("own(kept)", [3]), ("kept", [3]), ("[kept]", [3]), ("kept == kept", [3])]:
            self.assertEqual(faults.walked_faults(f"{start}    return {row}\n"), lines, row)
        self.assertEqual(faults.walked_faults("def f(xs):\n    kept = zip(xs, xs)\n    own(kept)\n"), [2])

    def test_stars(self):
        for row, lines in [("d[1, *xs] = 2", [1]), ("d[(1, *xs)] = 2", [1]), ("x = d[own(*xs)]", [1]),
                           ("d[(1, *[x for x in xs])] = True", [1]), ("x = d[1][*xs]", [1]),
                           ("x = (1, *xs)", []), ("own(*xs)", []), ("d[place] = [*xs]", []), ("x = (1, *xs) in d", [])]:
            self.assertEqual(faults.star_faults(row), lines, row)

    def test_loops(self):
        for row, lines in [("for x in xs:\n    xs.append(x)", [2]), ("for k in d.b:\n    d.b[k] = 1", [2]), ("for x in list(xs):\n    ys.append(x)", []),
                           ("for k, x in enumerate(xs):\n    xs[k] += x", [2]), ("for x in xs:\n    heappush(xs, x)", [2]),
                           ("y = [xs.pop() for x in xs]", [1]), ("y = [ys.pop() for x in xs]", [])]:
            self.assertEqual(faults.loop_faults(row), lines, row)

    def test_nested_names(self):
        for row, lines in [("[[x for x in xs] for z in xs]", [2]), ("[sum([z for z in y]) for y in xs]", []), ("[sum([z for z in y]) for z in xs]", [2]),
                           ("[sum([xs for xs in y]) for y in xs]", [2]), ("[z for z in xs], [z for z in xs]", [])]:
            self.assertEqual(faults.nested_faults(f"def f(xs, x):\n    return {row}\n"), lines, row)

    def test_tables(self):
        for row, lines in [("T[0]", []), ("2 in T", []), ("T.get(1)", []), ("f(T)", [3]), ("T", [3]), ("[T]", [3]), ("T.pop()", [3]), ("x in f(T)", [3])]:
            self.assertEqual(faults.table_faults(f"T = {{1: 2}}\ndef f(x):\n    return {row}\n"), lines, row)

    def test_sets(self):
        for row, lines in [("len(set(xs))", []), ("sorted(set(xs))", []), ("set(xs) == set(ys)", []), ("set(xs)", [2]), ("list(set(xs))", [2]),
                           ("{x for x in xs}", [2]), ("f({1, 2})", [2])]:
            self.assertEqual(faults.set_faults(f"def f(xs, ys):\n    return {row}\n"), lines, row)


if __name__ == "__main__":
    unittest.main()
