"""The rules of the language that a program can see: sizes, characters, imports, names, and forms."""

import ast
import builtins
import pathlib
import unittest

ROOT = pathlib.Path(__file__).parent.parent
PACKAGE = ROOT / "slopewords"
FILES = sorted(PACKAGE.rglob("*.py"))
DECORATORS = {"property", "classmethod"}
CALLED = {
    "len", "range", "enumerate", "zip", "min", "max", "sum", "abs", "sorted", "reversed", "int", "str", "bool", "list",
    "tuple", "dict", "isinstance", "any", "all", "divmod", "iter",
}
READ = CALLED | {"NotImplemented", "property", "classmethod"} | {
    "ValueError", "TypeError", "KeyError", "IndexError", "LookupError", "ArithmeticError", "OverflowError"}
METHODS = {
    "append", "clear", "copy", "count", "endswith", "extend", "find", "get", "index", "insert", "items", "join", "keys",
    "pop", "remove", "replace", "reverse", "split", "startswith", "strip", "values", "zfill", "bit_length",
}
LIBRARY = {"math": {"gcd", "lcm"}}
BARRED = (ast.GeneratorExp, ast.Lambda, ast.Set, ast.SetComp, ast.With, ast.Global, ast.Nonlocal, ast.Import,
          ast.AsyncFunctionDef, ast.Await, ast.NamedExpr, ast.YieldFrom, ast.Div)
CHANGES = ("append", "clear", "extend", "insert", "pop", "remove", "reverse", "setdefault", "update")
WORDS = {
    "type", "typing", "enum", "register", "mro", "elements", "open", "input", "law", "eval", "exec", "compile", "id",
    "vars", "globals", "locals", "getattr", "setattr", "hasattr", "format", "super",
}


def parse(path):
    return ast.parse(path.read_text())


def functions_of(tree):
    return [node for node in ast.walk(tree) if isinstance(node, ast.FunctionDef)]


def module_of(path):
    return ".".join(path.relative_to(ROOT).with_suffix("").parts)


def bound_names(tree):
    """The names that a file binds at module level, except by imports."""
    found = []
    for node in tree.body:
        if isinstance(node, (ast.FunctionDef, ast.ClassDef)):
            found.append(node.name)
        elif isinstance(node, ast.Assign):
            found.extend(target.id for target in node.targets)
    return found


def imports_of(tree):
    return [(node.module, alias.name, alias.asname) for node in tree.body if isinstance(node, ast.ImportFrom)
            for alias in node.names]


def changed_names(function):
    """The names of lists and dicts whose items a function changes."""
    found = set()
    for node in ast.walk(function):
        if isinstance(node, ast.Subscript) and not isinstance(node.ctx, ast.Load):
            found.add(ast.unparse(node.value))
        if isinstance(node, ast.Call) and isinstance(node.func, ast.Attribute) and node.func.attr in CHANGES:
            found.add(ast.unparse(node.func.value))
    return found


def given_values(function, name):
    """What a function assigns to a name; None stands for what a loop or a parameter gives it."""
    found = [None for argument in function.args.args + function.args.kwonlyargs if argument.arg == name]
    for node in ast.walk(function):
        if isinstance(node, ast.Assign):
            for target in node.targets:
                if isinstance(target, ast.Name) and target.id == name:
                    found.append(node.value)
                if isinstance(target, ast.Tuple) and name in [ast.unparse(part) for part in target.elts]:
                    found.append(None)
        if isinstance(node, ast.For) and name in [ast.unparse(part) for part in ast.walk(node.target)
                                                  if isinstance(part, ast.Name)]:
            found.append(None)
    return found


def is_new(value):
    """Whether a value is plainly a list or a dict that is created on the spot."""
    if isinstance(value, ast.Call) and isinstance(value.func, ast.Name):
        return value.func.id in ("list", "dict", "sorted")
    return isinstance(value, (ast.List, ast.ListComp, ast.Dict, ast.DictComp))


def local_names(function):
    names = {argument.arg for argument in function.args.args + function.args.kwonlyargs}
    return names | {node.id for node in ast.walk(function)
                    if isinstance(node, ast.Name) and isinstance(node.ctx, ast.Store)}


class LanguageTest(unittest.TestCase):
    def each(self):
        return [(path, parse(path)) for path in FILES]

    def test_files(self):
        for path in PACKAGE.rglob("*"):
            if "__pycache__" not in path.parts:
                self.assertTrue(path.is_dir() or path.suffix == ".py", path)
                self.assertTrue(not path.is_dir() or (path / "__init__.py").is_file(), path)

    def test_sizes_and_characters(self):
        for path, tree in self.each():
            lines = path.read_text().split("\n")
            self.assertLessEqual(len(lines), 400)
            self.assertLessEqual(max(map(len, lines)), 120)
            self.assertTrue(all(" " <= sign <= "~" for line in lines for sign in line))
            for function in functions_of(tree):
                self.assertLessEqual(function.end_lineno - function.lineno + 1, 40, function.name)

    def test_imports(self):
        named = {module_of(path): (bound_names(parse(path)), imports_of(parse(path))) for path in FILES}
        for path, tree in self.each():
            own = bound_names(tree) + [name for _, name, _ in imports_of(tree)]
            self.assertEqual(len(own), len(set(own)))
            for module, name, other in imports_of(tree):
                self.assertIn(name, LIBRARY[module] if module in LIBRARY else named[module][0])
                self.assertIsNone(other)
        for start in named:
            seen, rest = set(), [start]
            while rest:
                for module, _, _ in named[rest.pop()][1]:
                    self.assertNotEqual(module, start)
                    if module not in seen and module not in LIBRARY:
                        seen.add(module)
                        rest.append(module)

    def test_no_function_has_the_name_of_another_one(self):
        """So names of several files can be imported side by side."""
        names = [node.name for _, tree in self.each() for node in tree.body
                 if isinstance(node, (ast.FunctionDef, ast.ClassDef))]
        self.assertEqual(len(names), len(set(names)))

    def test_all_imports_are_used(self):
        for path, tree in self.each():
            read = {node.id for node in ast.walk(tree) if isinstance(node, ast.Name)}
            self.assertEqual({name for _, name, _ in imports_of(tree)} - read, set(), path)

    def test_forms(self):
        for _, tree in self.each():
            for node in ast.walk(tree):
                self.assertNotIsInstance(node, BARRED)
                if isinstance(node, ast.FunctionDef):
                    self.assertTrue(all(mark.id in DECORATORS for mark in node.decorator_list))
                    self.assertEqual(functions_of(node), [node])
                if isinstance(node, ast.BinOp) and isinstance(node.op, ast.Pow):
                    self.assertIsInstance(node.right, ast.Constant)
                if isinstance(node, ast.BinOp) and isinstance(node.op, ast.Mult):
                    self.assertNotIsInstance(node.left, (ast.List, ast.ListComp))
                    self.assertNotIsInstance(node.right, (ast.List, ast.ListComp))
                if isinstance(node, ast.AugAssign):
                    self.assertIn(ast.unparse(node.target).partition(".")[0], (ast.unparse(node.target), "self"))
                    self.assertIsInstance(node.target, (ast.Name, ast.Attribute))
                    self.assertIsInstance(node.value, ast.Constant)
                if isinstance(node, ast.Raise):
                    self.assertTrue(node.exc.func.id)

    def test_tries(self):
        """Only own errors are caught, and what stands in a finally is one assignment of names to attributes."""
        own = set(bound_names(parse(PACKAGE / "errors.py")))
        for _, tree in self.each():
            for node in ast.walk(tree):
                if isinstance(node, ast.Try):
                    for handler in node.handlers:
                        caught = handler.type.elts if isinstance(handler.type, ast.Tuple) else [handler.type]
                        self.assertLessEqual({name.id for name in caught}, own)
                        self.assertIsNone(handler.name)
                    for statement in node.finalbody:
                        self.assertIsInstance(statement, ast.Assign)
                        for part in ast.walk(statement):
                            self.assertIsInstance(part, (ast.Assign, ast.Tuple, ast.Name, ast.Attribute, ast.Load,
                                                         ast.Store))

    def test_stars_in_calls(self):
        """Behind a star in a call stands a name."""
        for _, tree in self.each():
            for node in ast.walk(tree):
                if isinstance(node, ast.Call):
                    self.assertTrue(all(isinstance(part.value, ast.Name) for part in node.args
                                        if isinstance(part, ast.Starred)), ast.unparse(node))

    def test_library_names_are_only_called(self):
        for _, tree in self.each():
            names = {name for module, name, _ in imports_of(tree) if module in LIBRARY}
            called = [node.func for node in ast.walk(tree) if isinstance(node, ast.Call)]
            for node in ast.walk(tree):
                if isinstance(node, ast.Name) and node.id in names:
                    self.assertIn(node, called)

    def test_generators_are_iterated_at_once(self):
        generators = {function.name for _, tree in self.each() for function in functions_of(tree)
                      if any(isinstance(node, ast.Yield) for node in ast.walk(function))}
        self.assertEqual(generators, {"irreducibles", "each_made", "each_shrunk", "signs", "sums_of"})
        for _, tree in self.each():
            heads = [node.iter for node in ast.walk(tree) if isinstance(node, ast.For)]
            for node in ast.walk(tree):
                if isinstance(node, ast.Call) and isinstance(node.func, ast.Name) and node.func.id in generators:
                    self.assertIn(node, heads)
                    self.assertTrue(all(isinstance(argument, ast.Name) for argument in node.args))

    def test_what_is_iterated_over_is_not_changed(self):
        for _, tree in self.each():
            for loop in [node for node in ast.walk(tree) if isinstance(node, ast.For)]:
                changed = set().union(*[changed_names(statement) for statement in loop.body])
                over = [loop.iter]
                if isinstance(loop.iter, ast.Call):
                    over = [loop.iter.func.value] if isinstance(loop.iter.func, ast.Attribute) else loop.iter.args
                for part in over:
                    self.assertNotIn(ast.unparse(part), changed)

    def test_changed_lists(self):
        """Only lists and dicts are changed that a literal, a comprehension or list(..) created in the same function."""
        for _, tree in self.each():
            for function in functions_of(tree):
                for name in changed_names(function):
                    values = given_values(function, name)
                    self.assertTrue(values, (function.name, name))
                    self.assertTrue(all(is_new(value) for value in values), (function.name, name))

    def test_names(self):
        for _, tree in self.each():
            outer = {node.name for node in tree.body if isinstance(node, ast.ClassDef)}
            outer |= {name for _, name, _ in imports_of(tree)}
            self.assertFalse((outer | set(bound_names(tree))) & set(dir(builtins)))
            for function in functions_of(tree):
                names = local_names(function)
                self.assertFalse(names & (outer | set(dir(builtins))), function.name)
            for node in ast.walk(tree):
                if isinstance(node, (ast.Name, ast.Attribute, ast.arg)):
                    name = getattr(node, "id", None) or getattr(node, "attr", None) or node.arg
                    self.assertNotIn(name, WORDS)
                    self.assertFalse(name.startswith("__"))

    def test_builtins_and_methods(self):
        own = {function.name for path in FILES for function in functions_of(parse(path))}
        for _, tree in self.each():
            for node in ast.walk(tree):
                if isinstance(node, ast.Name) and node.id in dir(builtins):
                    self.assertIn(node.id, READ)
                if isinstance(node, ast.Call) and isinstance(node.func, ast.Attribute):
                    self.assertIn(node.func.attr, own | METHODS)

    def test_strings(self):
        for _, tree in self.each():
            for node in ast.walk(tree):
                if isinstance(node, ast.Constant) and isinstance(node.value, str):
                    self.assertNotIn("%", node.value)


if __name__ == "__main__":
    unittest.main()
