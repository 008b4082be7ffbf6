"""The interface as it is written, and the rules of the language that a look at the code can tell."""

import ast
import builtins
import importlib
import inspect
import pathlib
import unittest

ROOT = pathlib.Path(__file__).resolve().parent.parent / "withinall"
FILES = sorted(path for path in ROOT.rglob("*") if "__pycache__" not in path.parts)

INTERFACE = {
    "errors": {"WithinError": None, "NoProgram": "(spot)", "NoText": "(row)", "NoPlace": "(place)", "NoRow": "(row)"},
    "programs": {
        "is_program": "(thing)", "need_program": "(thing)", "names_of": "(definition)", "numbers_of": "(definition)",
        "places_of": "(program)", "act_at": "(program, place)", "def_at": "(program, name)",
        "first_place": "(program, name)", "next_place": "(program, place)",
    },
    "texts": {"shown": "(program)", "read": "(text)"},
    "runs": {
        "beginning": "(program, name, given=())", "one_step": "(program, place, state, *, word=0)",
        "behind": "(program, place, state, word)", "run": "(program, words=(), *, steps=200)",
        "trace": "(program, words=(), *, steps=200)",
    },
    "boxes": {
        "box_of": "(program, name, state)", "lies": "(box, state)", "hull": "(one, other)", "met": "(one, other)",
        "tight": "(box, *, width)", "within": "(one, other)",
    },
    "sums": {"pairs": "(word, one, other, *, width)", "twice": "(word, one, *, width)"},
    "leads": {
        "leads": "(program, place, box)", "goes_behind": "(program, place, box, back)", "backs": "(program, place, box)",
    },
    "least": {"least": "(program)"},
    "papers": {
        "led_out": "(program, table)", "is_paper": "(program, table, thing)", "steps_of": "(program)",
        "wrong_step": "(program, table, rows)",
    },
    "looks": {
        "looks": "(program)", "safe": "(program, table)", "failing": "(program, table, place)",
        "first_trial": "(program, place, trials, *, steps=200)",
    },
    "groups": {"groups": "(program)"},
    "books": {"Book": "()"},
    "machines": {"compiled": "(program, *, left_out=())", "run_rows": "(rows, words=(), *, steps=200)"},
    "loops": {"led": "(text)"},
    "plays": {"play": "(text, words=(), *, steps=200)"},
    "desk": {"Desk": "()"},
}

# The methods that stand in the body of the class itself.
CLASSES = {
    ("books", "Book"): {"tell": "(self, program)", "rows": "(self)", "__len__": "(self)"},
    ("desk", "Desk"): {"say": "(self, row)"},
}

BUILTINS = set("""len range enumerate zip min max sum abs sorted reversed int str bool bytes list tuple dict set frozenset
isinstance ord chr repr any all divmod pow getattr hasattr setattr map iter next Exception ValueError TypeError KeyError
IndexError LookupError ZeroDivisionError ArithmeticError OverflowError RuntimeError NotImplementedError StopIteration
NotImplemented super""".split())

METHODS = set("""append clear copy count endswith extend find get index insert isalnum isalpha isdigit islower isspace isupper
items join keys ljust lower lstrip partition pop remove replace reverse rfind rjust rpartition rsplit rstrip setdefault split
splitlines startswith strip update upper values zfill bit_length add discard sort __init__""".split())

UNUSED = set("""register mro elements open input law version_info with_traceback add_note type typing enum namedtuple
dataclass overload contextmanager breakpoint builtins compile copyright credits delattr dir eval exec exit gc globals help id
importlib license locals os quit super vars sys""".split())

KINDS = (ast.AsyncFunctionDef, ast.AsyncFor, ast.AsyncWith, ast.Await, ast.Import, ast.Global, ast.TryStar, ast.Div)


def trees():
    return {path.stem: ast.parse(path.read_text()) for path in FILES}


class TestInterface(unittest.TestCase):
    def test_names_and_arguments(self):
        for file, names in INTERFACE.items():
            module = importlib.import_module("withinall." + file)
            for name, arguments in names.items():
                thing = getattr(module, name)
                self.assertEqual(thing.__module__, "withinall." + file)
                if arguments is not None:
                    self.assertEqual(str(inspect.signature(thing)), arguments, name)

    def test_methods_of_classes(self):
        for (file, name), methods in CLASSES.items():
            thing = getattr(importlib.import_module("withinall." + file), name)
            for method, arguments in methods.items():
                self.assertEqual(str(inspect.signature(vars(thing)[method])), arguments, method)


class TestFiles(unittest.TestCase):
    def test_plain_files(self):
        self.assertIn(ROOT / "__init__.py", FILES)
        for path in FILES:
            self.assertEqual(path.suffix, ".py")
            self.assertEqual(path.name, path.name.lower())

    def test_signs_and_sizes(self):
        for path in FILES:
            text = path.read_text()
            lines = text.split("\n")
            self.assertTrue(all(sign == "\n" or " " <= sign <= "~" for sign in text), path)
            self.assertLessEqual(len(lines) - 1, 399, path)
            self.assertLessEqual(max(map(len, lines)), 120, path)

    def test_lengths_of_functions(self):
        for tree in trees().values():
            for node in ast.walk(tree):
                if isinstance(node, ast.FunctionDef):
                    self.assertLessEqual(node.end_lineno - node.lineno + 1, 40, node.name)


class TestImports(unittest.TestCase):
    def test_from_the_very_file_that_defines(self):
        all_trees = trees()
        defined = {file: {name for node in tree.body for name in defined_by(node)} for file, tree in all_trees.items()}
        for file, tree in all_trees.items():
            for node in ast.walk(tree):
                if isinstance(node, ast.ImportFrom):
                    self.assertIn(node, tree.body)
                    package, _, other = node.module.partition(".")
                    self.assertEqual((package, node.level), ("withinall", 0))
                    for alias in node.names:
                        self.assertIn(alias.name, defined[other])
                        self.assertIsNone(alias.asname)

    def test_no_circles(self):
        leads = {file: {node.module.partition(".")[2] for node in tree.body if isinstance(node, ast.ImportFrom)}
                 for file, tree in trees().items()}
        while leads:
            ends = [file for file, others in leads.items() if not others & set(leads)]
            self.assertTrue(ends, leads)
            leads = {file: others for file, others in leads.items() if file not in ends}


class TestCode(unittest.TestCase):
    def test_statements_and_values(self):
        for file, tree in trees().items():
            for node in ast.walk(tree):
                self.assertNotIsInstance(node, KINDS, file)
                if isinstance(node, (ast.FunctionDef, ast.ClassDef)):
                    self.assertEqual(node.decorator_list, [])
                if isinstance(node, ast.Constant):
                    self.assertNotIsInstance(node.value, (float, complex))
                if isinstance(node, ast.Constant) and isinstance(node.value, str):
                    self.assertNotIn("%", node.value)

    def test_module_level(self):
        for tree in trees().values():
            for node in tree.body:
                plain = isinstance(node, (ast.ImportFrom, ast.FunctionDef, ast.ClassDef, ast.Assign, ast.Expr))
                self.assertTrue(plain, ast.dump(node))
                if isinstance(node, ast.Expr):
                    self.assertIsInstance(node.value, ast.Constant)
                if isinstance(node, ast.Assign):
                    self.assertEqual([type(target) for target in node.targets], [ast.Name])
                    self.assertFalse([part for part in ast.walk(node.value) if isinstance(part, ast.Call)])

    def test_builtins(self):
        for tree in trees().values():
            own = {name for node in ast.walk(tree) for name in bound_by(node)}
            self.assertFalse(own & set(dir(builtins)))
            self.assertFalse(own & UNUSED)
            for node in ast.walk(tree):
                if isinstance(node, ast.Name) and hasattr(builtins, node.id):
                    self.assertIn(node.id, BUILTINS)

    def test_locals_are_no_imports_and_no_classes(self):
        for file, tree in trees().items():
            taken = {alias.name for node in tree.body if isinstance(node, ast.ImportFrom) for alias in node.names}
            taken |= {node.name for node in tree.body if isinstance(node, ast.ClassDef)}
            for node in ast.walk(tree):
                if isinstance(node, (ast.arg, ast.Name)) and not isinstance(getattr(node, "ctx", None), ast.Load):
                    self.assertNotIn(getattr(node, "arg", None) or getattr(node, "id", None), taken, file)

    def test_no_generators_and_no_sets_gone_through(self):
        for file, tree in trees().items():
            for node in ast.walk(tree):
                self.assertNotIsInstance(node, (ast.Yield, ast.YieldFrom, ast.GeneratorExp), file)
                if isinstance(node, (ast.For, ast.comprehension)):
                    self.assertNotIsInstance(node.iter, (ast.Set, ast.SetComp), file)
                    if isinstance(node.iter, ast.Call) and isinstance(node.iter.func, ast.Name):
                        self.assertNotEqual(node.iter.func.id, "set", file)
                if isinstance(node, ast.Compare):
                    for op, side in zip(node.ops, node.comparators):
                        if isinstance(op, (ast.Is, ast.IsNot)):
                            self.assertIsInstance(side, ast.Constant, file)

    def test_methods(self):
        all_trees = trees()
        own = {node.name for tree in all_trees.values() for node in ast.walk(tree) if isinstance(node, ast.FunctionDef)}
        for tree in all_trees.values():
            for node in ast.walk(tree):
                if isinstance(node, ast.Call) and isinstance(node.func, ast.Attribute):
                    self.assertIn(node.func.attr, METHODS | own)


def defined_by(node):
    """The names that a statement at module level defines, imports left out."""
    if isinstance(node, (ast.FunctionDef, ast.ClassDef)):
        return [node.name]
    return [target.id for target in node.targets] if isinstance(node, ast.Assign) else []


def bound_by(node):
    """The names that a node gives a meaning."""
    if isinstance(node, (ast.FunctionDef, ast.ClassDef)):
        return [node.name]
    if isinstance(node, ast.arg):
        return [node.arg]
    if isinstance(node, ast.alias):
        return [node.name]
    return [node.id] if isinstance(node, ast.Name) and isinstance(node.ctx, ast.Store) else []


if __name__ == "__main__":
    unittest.main()
