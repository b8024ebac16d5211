"""The mechanical part of what LANGUAGE.md asks of the files of the package."""

import ast
import builtins
import unittest
from pathlib import Path

PACKAGE = Path(__file__).resolve().parent.parent / "pauseplaces"
LIBRARY = {
    "heapq": {"heappush", "heappop", "heapify", "heapreplace", "heappushpop"},
    "math": {"gcd", "lcm", "isqrt", "comb", "perm", "factorial"},
    "itertools": {"product", "combinations", "permutations", "chain", "accumulate", "pairwise",
                  "islice", "zip_longest"},
    "collections": {"defaultdict", "deque"},
}
# The parameters of each function, those behind a "*" by name alone.
INTERFACE = {
    "shapes": {"is_shape": "thing", "is_state": "shape thing", "states": "shape"},
    "rows": {"is_row": "shape thing", "done": "shape row state", "loses": "shape row",
             "inverse": "shape row", "joined": "shape row"},
    "scripts": {"read": "shape text", "show": "program"},
    "programs": {"Program.__init__": "self shape rows * pauses", "Program.__len__": "self",
                 "Program.__eq__": "self other", "Program.__contains__": "self x",
                 "sum_of": "one other", "inverse_of": "program", "run": "program state",
                 "log": "program state", "joined_by": "program"},
    "weavings": {"fault": "programs weaving", "position": "programs beginning",
                 "woven": "programs start beginning", "chain": "programs one other",
                 "weavings": "programs"},
    "grids": {"grid": "programs start", "part": "programs start", "walked": "programs start walk"},
    "starts": {"state_at": "programs start places", "orders_at": "programs start places",
               "greatest_starts": "programs starts", "left_out": "programs starts",
               "clashes": "first second starts"},
    "largest": {"largest_pairs": "first second starts", "pair_table": "first second starts",
                "largest_triples": "first second starts", "triple_table": "first second starts"},
    "wishes": {"must_go": "first second starts", "least": "first second starts * prices",
               "numbers": "first second starts * prices",
               "fate": "first second starts which wish * prices"},
    "losing": {"states_of": "programs start", "on_the_way": "programs start", "at_the_end": "programs start"},
    "sequences": {"sequence_ends": "programs start", "unlike": "programs start",
                  "way_to": "programs start places state"},
    "benches": {
        "Bench.__init__": "self shape state", "Bench.let_in": "self name program",
        "Bench.step": "self name * times", "Bench.back": "self name * times", "Bench.moves": "self steps",
        "Bench.close": "self name", "Bench.take_back": "self name", "Bench.base": "self", "Bench.state": "self",
        "Bench.where": "self", "Bench.program": "self name", "Bench.count": "self", "Bench.__len__": "self",
        "Bench.__contains__": "self x", "Bench.__eq__": "self other", "Bench.serial": "self name",
        "Bench.set_pauses": "self name pauses", "Bench.set_count": "self count", "Bench.marks": "self",
        "Bench.copy": "self"},
    "granting": {"grants": "bench program", "let_in_with": "bench name program", "grant": "bench name place",
                 "give_up": "bench name place"},
    "marks": {"mark": "bench", "back_to": "bench number", "fork": "bench"},
    "pages": {"page": "bench", "read_page": "text"},
    "rounds": {"round_states": "programs start rounds", "whole_way": "programs start rounds state",
               "rounds_part": "programs start rounds", "round_woven": "programs start rounds beginning"},
}
# Where examples are run, "_" turns up among them.
ALL_BUILTINS = set(dir(builtins)) - {"_"}
BUILTINS = set(
    "len range enumerate zip min max sum abs sorted reversed int str bool list tuple dict set "
    "isinstance ord repr any all divmod map iter next ValueError".split())
METHODS = set(
    "append clear copy count endswith extend find get index insert isalnum isalpha isdigit islower "
    "isspace isupper items join keys ljust lower lstrip partition pop remove replace reverse rfind "
    "rjust rpartition rsplit rstrip setdefault split splitlines startswith strip update upper values "
    "zfill bit_length isascii".split())
SPECIAL = set("__init__ __eq__ __repr__ __str__ __len__ __contains__".split())
# L17: what is no name at all, and what is no name of a variable, a function or a class.
NO_NAMES = set("register mro elements open input law version_info with_traceback add_note".split())
BARRED = ("type", "typing", "enum", "Enum", "Flag", "Generic", "Protocol", "ABC", "namedtuple")
BARRED_NODES = (
    ast.Import, ast.GeneratorExp, ast.Global, ast.Nonlocal, ast.AsyncFunctionDef, ast.Await,
    ast.Div, ast.Set, ast.With, ast.Match, ast.NamedExpr, ast.AnnAssign, ast.Delete, ast.Pow)


def sources():
    return [(path, path.read_text(encoding="utf-8")) for path in sorted(PACKAGE.rglob("*.py"))]


def trees():
    return [(path, ast.parse(text)) for path, text in sources()]


def nodes(tree, *kinds):
    return [node for node in ast.walk(tree) if isinstance(node, kinds)]


def imports(tree):
    return [(node.module, alias.name) for node in nodes(tree, ast.ImportFrom) for alias in node.names]


def bound(tree):
    """All names of parameters and variables."""
    names = [node.id for node in nodes(tree, ast.Name) if isinstance(node.ctx, ast.Store)]
    return set(names) | {node.arg for node in nodes(tree, ast.arg)}


def defined(tree):
    return {node.name for node in tree.body if isinstance(node, (ast.FunctionDef, ast.ClassDef))}


def parameters(node):
    names = [arg.arg for arg in node.args.posonlyargs + node.args.args]
    if node.args.kwonlyargs:
        names += ["*"] + [arg.arg for arg in node.args.kwonlyargs]
    return " ".join(names)


def functions(tree):
    """All functions and methods, by their dotted names, with their parameters."""
    found = {}
    for node in tree.body:
        if isinstance(node, ast.FunctionDef):
            found[node.name] = parameters(node)
        if isinstance(node, ast.ClassDef):
            for method in node.body:
                if isinstance(method, ast.FunctionDef):
                    found[node.name + "." + method.name] = parameters(method)
    return found


class FilesTest(unittest.TestCase):
    def test_nothing_but_sources(self):
        others = [path for path in PACKAGE.rglob("*") if path.suffix != ".py"]
        self.assertEqual([path for path in others if "__pycache__" not in path.parts], [])
        self.assertTrue((PACKAGE / "__init__.py").is_file())

    def test_characters(self):
        for path, text in sources():
            odd = {sign for sign in text if sign != "\n" and not " " <= sign <= "~"}
            self.assertEqual(odd, set(), path)

    def test_sizes(self):
        for path, text in sources():
            lines = text.splitlines()
            self.assertLessEqual(len(lines), 399, path)
            self.assertLessEqual(max(map(len, lines)), 120, path)
            for node in nodes(ast.parse(text), ast.FunctionDef):
                self.assertLessEqual(node.end_lineno - node.lineno + 1, 40, (path, node.name))

    def test_module_level(self):
        for path, tree in trees():
            for node in tree.body:
                self.assertIsInstance(node, (
                    ast.Expr, ast.ImportFrom, ast.FunctionDef, ast.ClassDef, ast.Assign), path)
                if isinstance(node, ast.Assign):
                    ast.literal_eval(node.value)


class ImportsTest(unittest.TestCase):
    def test_from_the_very_file(self):
        own = {"pauseplaces." + path.stem: tree for path, tree in trees()}
        for path, tree in trees():
            for module, name in imports(tree):
                if module in LIBRARY:
                    self.assertIn(name, LIBRARY[module], path)
                else:
                    levels = {target.id for node in own[module].body if isinstance(node, ast.Assign)
                              for target in node.targets}
                    self.assertIn(name, defined(own[module]) | levels, path)

    def test_no_circles(self):
        wanted = {"pauseplaces." + path.stem: {module for module, _ in imports(tree)}
                  for path, tree in trees()}
        while wanted:
            free = [name for name in wanted if not wanted[name] & set(wanted)]
            self.assertNotEqual(free, [], wanted)
            for name in free:
                del wanted[name]


class NamesTest(unittest.TestCase):
    def test_no_name_of_a_builtin_a_class_or_an_import(self):
        for path, tree in trees():
            classes = {node.name for node in nodes(tree, ast.ClassDef)}
            taken = ALL_BUILTINS | classes | {name for _, name in imports(tree)} | NO_NAMES
            self.assertEqual(bound(tree) & taken, set(), path)
            self.assertEqual(defined(tree) & (ALL_BUILTINS | NO_NAMES), set(), path)

    def test_no_variable_has_the_name_of_a_function_of_its_file(self):
        for path, tree in trees():
            self.assertEqual(bound(tree) & defined(tree), set(), path)

    def test_builtins(self):
        for path, tree in trees():
            read = {node.id for node in nodes(tree, ast.Name)} & ALL_BUILTINS
            self.assertLessEqual(read, BUILTINS, path)

    def test_barred_words(self):
        for path, text in sources():
            for node in nodes(ast.parse(text), ast.Name, ast.Attribute, ast.Constant):
                word = getattr(node, "id", getattr(node, "attr", getattr(node, "value", None)))
                self.assertNotIn(word, BARRED, path)

    def test_methods(self):
        own = {node.name for _, tree in trees() for node in nodes(tree, ast.FunctionDef)}
        for path, tree in trees():
            for node in nodes(tree, ast.Call):
                if isinstance(node.func, ast.Attribute):
                    self.assertIn(node.func.attr, METHODS | own, path)
                    self.assertTrue(node.func.attr in own or not node.keywords, path)
            for node in nodes(tree, ast.FunctionDef):
                self.assertTrue(not node.name.startswith("__") or node.name in SPECIAL, path)


class StatementsTest(unittest.TestCase):
    def test_what_is_not_used(self):
        for path, tree in trees():
            self.assertEqual([ast.dump(node) for node in nodes(tree, *BARRED_NODES)], [], path)

    def test_only_own_errors_are_caught(self):
        own = defined(ast.parse((PACKAGE / "errors.py").read_text(encoding="utf-8")))
        for path, tree in trees():
            for node in nodes(tree, ast.Try):
                self.assertEqual((node.orelse, node.finalbody), ([], []), path)
            for node in nodes(tree, ast.ExceptHandler):
                self.assertIsNotNone(node.type, path)
                self.assertLessEqual({name.id for name in nodes(node.type, ast.Name)}, own, path)

    def test_is(self):
        for path, tree in trees():
            for node in nodes(tree, ast.Compare):
                if any(isinstance(sign, (ast.Is, ast.IsNot)) for sign in node.ops):
                    self.assertIn(ast.unparse(node.comparators[0]), ("None", "True", "False"), path)

    def test_no_decorators(self):
        for path, tree in trees():
            for node in nodes(tree, ast.FunctionDef, ast.ClassDef):
                self.assertEqual(node.decorator_list, [], path)

    def test_strings(self):
        for path, tree in trees():
            for node in nodes(tree, ast.Constant):
                self.assertNotIsInstance(node.value, (float, complex, bytes), path)
                if isinstance(node.value, str):
                    self.assertNotIn("%", node.value, path)

    def test_sets_are_built_on_the_spot(self):
        for path, tree in trees():
            inside = {id(node.args[0]) for node in nodes(tree, ast.Call)
                      if isinstance(node.func, ast.Name) and node.func.id in ("sorted", "len")
                      and node.args}
            for node in nodes(tree, ast.SetComp, ast.Call):
                if isinstance(node, ast.SetComp) or ast.unparse(node.func) == "set":
                    self.assertIn(id(node), inside, path)

    def test_products_are_iterated_at_once(self):
        for path, tree in trees():
            loops = {id(node.iter) for node in nodes(tree, ast.For, ast.comprehension)}
            for node in nodes(tree, ast.Call):
                if ast.unparse(node.func) in ("product", "permutations", "combinations"):
                    self.assertIn(id(node), loops, path)
                    self.assertNotIn("Starred", [ast.dump(arg)[:7] for arg in node.args], path)

    def test_generators_are_iterated_at_once(self):
        makers = [node.name for _, tree in trees() for node in nodes(tree, ast.FunctionDef)
                  if nodes(node, ast.Yield, ast.YieldFrom)]
        self.assertEqual(makers, ["weavings"])
        for path, tree in trees():
            self.assertNotIn("weavings", [node.id for node in nodes(tree, ast.Name)], path)


class InterfaceTest(unittest.TestCase):
    def test_defined_where_it_is_listed(self):
        for module, listed in INTERFACE.items():
            found = functions(ast.parse((PACKAGE / (module + ".py")).read_text(encoding="utf-8")))
            for name, expected in listed.items():
                self.assertEqual(found.get(name), expected, name)


if __name__ == "__main__":
    unittest.main()
