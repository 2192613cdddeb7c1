"""Those rules of the Python subset that a look at the syntax tree can tell."""

import ast
import builtins
import os
import re
import unittest

FOLDER = os.path.join(os.path.dirname(os.path.dirname(os.path.abspath(__file__))), "layerask")

BUILTINS = set("""len range enumerate zip min max sum abs sorted reversed int str bool list tuple dict set isinstance ord
repr any all divmod pow Exception ValueError TypeError KeyError IndexError LookupError ZeroDivisionError ArithmeticError
OverflowError RuntimeError NotImplementedError StopIteration super""".split())

# The name "_" stands there, too, as soon as an example has run.
NAMES = set(dir(builtins)) - {"_"}

METHODS = set("""append clear copy count endswith extend find get index insert isalnum isalpha isdigit islower isspace
isupper items join keys ljust lower lstrip partition pop remove replace reverse rfind rjust rpartition rsplit rstrip
setdefault split splitlines startswith strip update upper values zfill bit_length""".split())

BARRED = re.compile(r"\b(typing|typing_extensions|enum|Enum|IntEnum|StrEnum|Flag|IntFlag|Generic|Protocol|ABC|ABCMeta|"
                    r"namedtuple|NamedTuple|TypedDict|TYPE_CHECKING|abstractmethod|register|mro|elements|open|input|law|"
                    r"version_info|with_traceback|add_note|_wall|_WallAttr|global|async|await|eval|exec|print)\b")


def files():
    return sorted(name for name in os.listdir(FOLDER) if name != "__pycache__")


def texts():
    for name in files():
        with open(os.path.join(FOLDER, name), encoding="ascii", newline="") as held:
            yield name, held.read()


def trees():
    for name, text in texts():
        yield name, ast.parse(text)


def functions(tree):
    return [node for node in ast.walk(tree) if isinstance(node, ast.FunctionDef)]


def own_names(tree):
    """The names that a file binds at module level by itself."""
    found = []
    for part in tree.body:
        if isinstance(part, (ast.FunctionDef, ast.ClassDef)):
            found.append(part.name)
        if isinstance(part, ast.Assign):
            found += [target.id for target in part.targets]
    return found


def imports(tree):
    return [part for part in tree.body if isinstance(part, ast.ImportFrom)]


def local_names(function):
    """The parameters and all other names that a function assigns."""
    arguments = function.args
    found = {argument.arg for argument in arguments.args + arguments.kwonlyargs + arguments.posonlyargs}
    for node in ast.walk(function):
        if isinstance(node, ast.Name) and isinstance(node.ctx, ast.Store):
            found.add(node.id)
    return found


class FilesTest(unittest.TestCase):
    def test_names(self):
        for name in files():
            self.assertRegex(name, r"\A[a-z0-9_]+\.py\Z")
            self.assertFalse(name != "__init__.py" and name[:-3] in NAMES, name)

    def test_characters_and_sizes(self):
        for name, text in texts():
            self.assertFalse([char for char in text if char != "\n" and not " " <= char <= "~"], name)
            lines = text.split("\n")
            self.assertLessEqual(len(lines), 400, name)
            self.assertLessEqual(max(len(line) for line in lines), 120, name)
            for function in functions(ast.parse(text)):
                self.assertLessEqual(function.end_lineno - function.lineno + 1, 40, (name, function.name))


class ModulesTest(unittest.TestCase):
    def test_module_level(self):
        for name, tree in trees():
            seen_other = False
            for part in tree.body:
                docstring = isinstance(part, ast.Expr) and isinstance(part.value, ast.Constant)
                self.assertTrue(docstring or isinstance(part, (ast.ImportFrom, ast.FunctionDef, ast.ClassDef, ast.Assign)))
                self.assertFalse(isinstance(part, ast.ImportFrom) and seen_other, name)
                seen_other = seen_other or not (docstring or isinstance(part, ast.ImportFrom))

    def test_imports(self):
        defined = {"layerask." + name[:-3]: own_names(tree) for name, tree in trees()}
        for name, tree in trees():
            for part in ast.walk(tree):
                self.assertNotIsInstance(part, ast.Import, name)
            for part in imports(tree):
                self.assertEqual(part.level, 0, name)
                for alias in part.names:
                    self.assertIsNone(alias.asname, name)
                    self.assertIn(alias.name, defined[part.module], name)

    def test_no_circle(self):
        needs = {name[:-3]: {part.module.split(".")[1] for part in imports(tree)} for name, tree in trees()}
        while needs:
            free = [name for name, others in needs.items() if not others & set(needs)]
            self.assertTrue(free, needs)
            for name in free:
                del needs[name]

    def test_one_binding(self):
        for name, tree in trees():
            bound = own_names(tree) + [alias.name for part in imports(tree) for alias in part.names]
            self.assertEqual(len(bound), len(set(bound)), name)
            self.assertFalse(set(bound) & NAMES, name)


    def test_imports_are_used(self):
        for name, tree in trees():
            used = {node.id for node in ast.walk(tree) if isinstance(node, ast.Name)}
            for part in imports(tree):
                for alias in part.names:
                    self.assertIn(alias.name, used, name)


class CallsTest(unittest.TestCase):
    def test_calls_pass_what_is_taken(self):
        """Calls of own functions and classes by their names, by position only."""
        taken = {}
        for name, tree in trees():
            for part in tree.body:
                starts = [part] if isinstance(part, ast.FunctionDef) else []
                if isinstance(part, ast.ClassDef):
                    starts = [inner for inner in part.body if isinstance(inner, ast.FunctionDef) and inner.name == "__init__"]
                for function in starts:
                    self.assertEqual(function.args.defaults, [], name)
                    many = len(function.args.args) - (1 if isinstance(part, ast.ClassDef) else 0)
                    taken.setdefault(part.name, set()).add(many)
        for name, tree in trees():
            for node in ast.walk(tree):
                if isinstance(node, ast.Call) and isinstance(node.func, ast.Name) and node.func.id in taken:
                    self.assertEqual(node.keywords, [], name)
                    self.assertIn(len(node.args), taken[node.func.id], (name, node.func.id))

    def test_super_calls_a_method(self):
        for name, tree in trees():
            called = {id(node.value) for node in ast.walk(tree) if isinstance(node, ast.Attribute)}
            for node in ast.walk(tree):
                if isinstance(node, ast.Call) and getattr(node.func, "id", "") == "super":
                    self.assertEqual(node.args, [], name)
                    self.assertIn(id(node), called, name)


class NamesTest(unittest.TestCase):
    def test_names_that_begin_in_a_barred_way(self):
        barred = re.compile(r"_wall|_pe_|_dcw_|_enum_|_cm_|_twin_re_|_lay_|_law_|_stub_|_sre|_WallAttr|__")
        for name, tree in trees():
            for node in ast.walk(tree):
                for word in (getattr(node, "id", ""), getattr(node, "attr", ""), getattr(node, "arg", ""), getattr(node, "name", "")):
                    if isinstance(word, str) and word != "__init__":
                        self.assertIsNone(barred.match(word), (name, word))

    def test_local_names(self):
        for name, tree in trees():
            taken = {alias.name for part in imports(tree) for alias in part.names}
            taken |= {part.name for part in tree.body if isinstance(part, ast.ClassDef)}
            for function in functions(tree):
                found = local_names(function)
                self.assertFalse(found & taken, (name, function.name))
                self.assertFalse(found & NAMES, (name, function.name))

    def test_barred_words(self):
        for name, tree in trees():
            for node in ast.walk(tree):
                for word in (getattr(node, "id", ""), getattr(node, "attr", ""), getattr(node, "arg", ""),
                             getattr(node, "name", "")):
                    self.assertFalse(isinstance(word, str) and BARRED.search(word), (name, word))
                    self.assertNotEqual(word, "type")

    def test_builtins(self):
        for name, tree in trees():
            for node in ast.walk(tree):
                if isinstance(node, ast.Name) and node.id in NAMES:
                    self.assertIn(node.id, BUILTINS, name)

    def test_methods_and_attributes(self):
        for name, tree in trees():
            for kind in [part for part in tree.body if isinstance(part, ast.ClassDef)]:
                methods = [part.name for part in kind.body if isinstance(part, ast.FunctionDef)]
                self.assertEqual(len(methods), len(set(methods)))
                stored = {node.attr for node in ast.walk(kind)
                          if isinstance(node, ast.Attribute) and isinstance(node.ctx, ast.Store)}
                self.assertFalse(stored & set(methods), (name, kind.name))

    def test_names_of_methods_and_attributes(self):
        """No own method or attribute has a name that values of Python's own have, but for those that may."""
        known = {word for kind in (str, int, list, dict, set, bytes) for word in dir(kind) if not word.startswith("_")}
        barred = set("""items keys values pop update append clear extend insert remove reverse setdefault sort args encode
                     decode hex fromhex format""".split())
        for name, tree in trees():
            for kind in [part for part in tree.body if isinstance(part, ast.ClassDef)]:
                methods = {part.name for part in kind.body if isinstance(part, ast.FunctionDef)}
                self.assertFalse(methods & (known - METHODS - {"add", "discard"}), (name, kind.name))
            for node in ast.walk(tree):
                if isinstance(node, ast.Attribute) and isinstance(node.ctx, ast.Store):
                    self.assertNotIn(node.attr, barred, name)

    def test_attributes_that_are_read(self):
        """What is read off an object is assigned by some class, or is a method."""
        stored, methods = set(), set(METHODS)
        for _, tree in trees():
            methods |= {function.name for function in functions(tree)}
            stored |= {node.attr for node in ast.walk(tree)
                       if isinstance(node, ast.Attribute) and isinstance(node.ctx, ast.Store)}
        for name, tree in trees():
            for node in ast.walk(tree):
                if isinstance(node, ast.Attribute):
                    self.assertIn(node.attr, stored | methods, name)

    def test_no_method_is_read_off_a_class(self):
        kinds = {part.name for _, tree in trees() for part in tree.body if isinstance(part, ast.ClassDef)}
        for name, tree in trees():
            for node in ast.walk(tree):
                if isinstance(node, ast.Attribute) and isinstance(node.value, ast.Name):
                    self.assertNotIn(node.value.id, kinds, name)

    def test_methods_and_functions_are_only_called(self):
        """A method of an own class is called where it stands, never passed on."""
        methods = {part.name for _, tree in trees() for kind in tree.body if isinstance(kind, ast.ClassDef)
                   for part in kind.body if isinstance(part, ast.FunctionDef)}
        stored = {node.attr for _, tree in trees() for node in ast.walk(tree)
                  if isinstance(node, ast.Attribute) and isinstance(node.ctx, ast.Store)}
        for name, tree in trees():
            called = {id(node.func) for node in ast.walk(tree) if isinstance(node, ast.Call)}
            for node in ast.walk(tree):
                if isinstance(node, ast.Attribute) and node.attr in methods - stored:
                    self.assertIn(id(node), called, (name, node.attr))

    def test_caught_errors(self):
        """A handler's name is no other name of its function, and nobody catches more than own errors."""
        own = {part.name for _, tree in trees() for part in tree.body if isinstance(part, ast.ClassDef)}
        for name, tree in trees():
            for function in functions(tree):
                handlers = [node for node in ast.walk(function) if isinstance(node, ast.ExceptHandler)]
                caught = [node.name for node in handlers if node.name is not None]
                self.assertEqual(len(caught), len(set(caught)), (name, function.name))
                self.assertFalse(set(caught) & local_names(function), (name, function.name))
                for node in handlers:
                    self.assertIsInstance(node.type, ast.Name, name)
                    self.assertIn(node.type.id, own, name)

    def test_methods_that_are_called(self):
        own = {function.name for _, tree in trees() for function in functions(tree)}
        for name, tree in trees():
            for node in ast.walk(tree):
                if isinstance(node, ast.Call) and isinstance(node.func, ast.Attribute):
                    self.assertIn(node.func.attr, own | METHODS, name)


def docstrings(tree):
    """The constants of a tree that are docstrings."""
    found = set()
    for node in ast.walk(tree):
        if isinstance(node, (ast.Module, ast.ClassDef, ast.FunctionDef)) and node.body:
            first = node.body[0]
            if isinstance(first, ast.Expr) and isinstance(first.value, ast.Constant):
                found.add(id(first.value))
    return found


class StringsTest(unittest.TestCase):
    def test_words_that_stand_in_no_string(self):
        words = re.compile(r"\b(typing|typing_extensions|enum|Enum|IntEnum|StrEnum|Flag|IntFlag|Generic|Protocol|ABC|ABCMeta|"
                           r"namedtuple|NamedTuple|TypedDict|TYPE_CHECKING|abstractmethod)\b|dataclass|overload|contextmanager")
        for name, tree in trees():
            told = docstrings(tree)
            for node in ast.walk(tree):
                if isinstance(node, ast.Constant) and isinstance(node.value, str) and id(node) not in told:
                    self.assertNotRegex(node.value, words, name)
                    self.assertFalse(node.value.endswith(("._", ".__")), name)
                    self.assertNotRegex(node.value, r"^__|[^ -~\n]", name)

    def test_strings_in_braces(self):
        """No string, f-string or bytes inside the braces of an f-string, and none over two lines."""
        for name, tree in trees():
            for node in ast.walk(tree):
                if isinstance(node, ast.JoinedStr):
                    self.assertEqual(node.lineno, node.end_lineno, name)
                    for part in node.values:
                        if isinstance(part, ast.FormattedValue):
                            self.assertFalse([inner for inner in ast.walk(part.value) if isinstance(inner, (ast.JoinedStr, ast.Constant))
                                              and not isinstance(getattr(inner, "value", None), int)], name)


class SyntaxTest(unittest.TestCase):
    def test_what_does_not_stand(self):
        barred = (ast.Global, ast.AsyncFunctionDef, ast.AsyncFor, ast.AsyncWith, ast.Await, ast.Div, ast.MatMult,
                  ast.AnnAssign)
        for name, tree in trees():
            for node in ast.walk(tree):
                self.assertNotIsInstance(node, barred, name)
                if isinstance(node, ast.Constant):
                    self.assertNotIsInstance(node.value, (float, complex), name)
                    self.assertFalse(isinstance(node.value, str) and "%" in node.value, name)
                if isinstance(node, ast.BinOp) and isinstance(node.op, ast.Pow):
                    self.assertIsInstance(node.right, ast.Constant, name)
                if isinstance(node, (ast.FunctionDef, ast.ClassDef)):
                    self.assertEqual(node.decorator_list, [], name)
                if isinstance(node, ast.Raise) and node.exc is not None:
                    self.assertIsInstance(node.exc, ast.Call, name)
                    self.assertIsInstance(node.exc.func, ast.Name, name)

    def test_is(self):
        for name, tree in trees():
            for node in ast.walk(tree):
                if isinstance(node, ast.Compare) and any(isinstance(sign, (ast.Is, ast.IsNot)) for sign in node.ops):
                    other = node.comparators[0]
                    self.assertTrue(isinstance(other, ast.Constant) and other.value in (None, True, False), name)

    def test_loops_do_not_change_what_they_go_over(self):
        changing = set("append clear extend insert pop remove reverse setdefault update sort".split())
        for name, tree in trees():
            for loop in ast.walk(tree):
                if isinstance(loop, ast.For):
                    over = {ast.dump(node) for node in ast.walk(loop.iter) if isinstance(node, (ast.Name, ast.Attribute))}
                    for node in [inner for part in loop.body for inner in ast.walk(part)]:
                        if isinstance(node, ast.Attribute) and node.attr in changing:
                            self.assertNotIn(ast.dump(node.value), over, (name, loop.lineno))
                        if isinstance(node, ast.Subscript) and isinstance(node.ctx, (ast.Store, ast.Del)):
                            self.assertNotIn(ast.dump(node.value).replace("Store()", "Load()"), over, (name, loop.lineno))

    def test_module_values(self):
        """What stands at module level contains no list or dict inside a list or dict, and is only read."""
        for name, tree in trees():
            for part in tree.body:
                if isinstance(part, ast.Assign):
                    self.assertEqual(len(part.targets), 1, name)
                    for node in ast.walk(part.value):
                        self.assertNotIsInstance(node, (ast.Call, ast.ListComp, ast.Set, ast.Lambda), name)
                    inside = [node for node in ast.walk(part.value) if isinstance(node, (ast.List, ast.Dict))]
                    self.assertFalse(inside and (len(inside) > 1 or inside[0] is not part.value), name)

    def test_sets_stay_local(self):
        """A set stands in a local name, or directly in sorted or len or behind in."""
        for name, tree in trees():
            for node in ast.walk(tree):
                if isinstance(node, (ast.Return, ast.Attribute, ast.Dict, ast.List, ast.Tuple)):
                    for child in ast.iter_child_nodes(node):
                        self.assertNotIsInstance(child, (ast.Set, ast.SetComp), name)
                        self.assertFalse(isinstance(child, ast.Call) and getattr(child.func, "id", "") == "set", name)

    def test_views_are_iterated_at_once(self):
        for name, tree in trees():
            for node in ast.walk(tree):
                if isinstance(node, (ast.Return, ast.Assign)) and isinstance(node.value, ast.Call):
                    called = node.value.func
                    self.assertNotIn(getattr(called, "id", ""), ("zip", "range", "enumerate", "reversed"), name)


if __name__ == "__main__":
    unittest.main()
