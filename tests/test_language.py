"""The rules of the language subset that can be seen file by file, as far as the package comes near them."""

import ast
import builtins
import os
import re
import unittest

ROOT = os.path.dirname(os.path.dirname(os.path.abspath(__file__)))
PACKAGE = os.path.join(ROOT, 'oncebooked')
LIBRARY = {'heapq': {'heappush', 'heappop', 'heapify', 'heapreplace', 'heappushpop'},
           'math': {'gcd', 'lcm', 'isqrt', 'comb', 'perm', 'factorial'},
           'itertools': {'product', 'combinations', 'permutations', 'chain', 'accumulate', 'pairwise', 'islice', 'zip_longest'},
           'collections': {'defaultdict', 'deque'}}
BUILTINS = set('''len range enumerate zip min max sum abs sorted reversed int str bool bytes list tuple dict set frozenset
isinstance ord repr any all divmod pow getattr hasattr setattr type iter next map super property staticmethod classmethod
Exception ValueError TypeError KeyError IndexError LookupError ZeroDivisionError ArithmeticError OverflowError
RuntimeError NotImplementedError AttributeError StopIteration NotImplemented'''.split())
METHODS = set('''append clear copy count endswith extend find get index insert isalnum isalpha isdigit islower isspace
isupper items join keys ljust lower lstrip partition pop remove replace reverse rfind rjust rpartition rsplit rstrip
setdefault split splitlines startswith strip update upper values zfill bit_length title capitalize swapcase casefold
center expandtabs removeprefix removesuffix rindex isascii isdecimal isnumeric istitle isidentifier isprintable'''.split())
SPECIAL = {'__init__', '__eq__', '__repr__', '__str__', '__len__', '__contains__'}
BARRED = set('''register mro elements open input law version_info with_traceback add_note attrgetter breakpoint builtins
compile copyright credits delattr dir eval exec exit gc globals help id importlib license locals methodcaller os quit
setattr vars sys'''.split())
BARRED_STARTS = ('_wall', '_pe_', '_dcw_', '_enum_', '_cm_', '_twin_re_', '_lay_', '_law_', '_stub_', '_sre', '__')


def paths():
    return sorted(os.path.join(folder, name) for folder, _, names in os.walk(PACKAGE) for name in names
                  if '__pycache__' not in folder)


def sources():
    found = {}
    for path in paths():
        with open(path, encoding='utf-8') as file:
            found[os.path.relpath(path, ROOT)] = file.read()
    return found


def defined_in(tree):
    """The names of the functions, classes and values of a file."""
    names = {part.name for part in tree.body if isinstance(part, (ast.FunctionDef, ast.ClassDef))}
    return names | {target.id for part in tree.body if isinstance(part, ast.Assign) for target in part.targets}


class Language(unittest.TestCase):

    def setUp(self):
        self.sources = sources()
        self.trees = {path: ast.parse(text) for path, text in self.sources.items()}

    def nodes(self, *kinds):
        for path, tree in self.trees.items():
            for node in ast.walk(tree):
                if isinstance(node, kinds):
                    yield f'{path}:{getattr(node, "lineno", 0)}', node

    def own_names(self):
        return {node.name for _, node in self.nodes(ast.FunctionDef, ast.ClassDef)}

    def test_files(self):
        for path, text in self.sources.items():
            self.assertRegex(path, r'^oncebooked/[a-z0-9_]+\.py$')
            self.assertRegex(text, r'\A[ -~\n]*\Z', path)
            rows = text.split('\n')
            self.assertLessEqual(len(rows), 399, path)
            self.assertLessEqual(max(len(row) for row in rows), 120, path)

    def test_functions_are_small(self):
        for place, node in self.nodes(ast.FunctionDef):
            self.assertLessEqual(node.end_lineno - node.lineno + 1, 40, place)
            for decorator in node.decorator_list:
                self.assertEqual(getattr(decorator, 'id', None), 'property', place)
            if node.name.startswith('__'):
                self.assertIn(node.name, SPECIAL, place)

    def test_module_level(self):
        for path, tree in self.trees.items():
            names = []
            for at, node in enumerate(tree.body):
                if at == 0:
                    self.assertIsNotNone(ast.get_docstring(tree), path)
                    continue
                self.assertIsInstance(node, (ast.ImportFrom, ast.FunctionDef, ast.ClassDef, ast.Assign), path)
                if isinstance(node, ast.ImportFrom):
                    names += [alias.name for alias in node.names]
                elif isinstance(node, ast.Assign):
                    names += [target.id for target in node.targets]
                else:
                    names.append(node.name)
            self.assertEqual(len(names), len(set(names)), path)

    def test_imports(self):
        for place, node in self.nodes(ast.Import, ast.ImportFrom):
            self.assertIsInstance(node, ast.ImportFrom, place)
            self.assertEqual(node.level, 0, place)
            names = {alias.name for alias in node.names}
            if node.module in LIBRARY:
                self.assertLessEqual(names, LIBRARY[node.module], place)
                continue
            self.assertTrue(node.module.startswith('oncebooked.'), place)
            self.assertLessEqual(names, defined_in(self.trees[node.module.replace('.', '/') + '.py']), place)

    def test_no_two_files_import_from_each_other(self):
        ahead = {path: {node.module.replace('.', '/') + '.py' for node in tree.body
                        if isinstance(node, ast.ImportFrom) and node.module not in LIBRARY}
                 for path, tree in self.trees.items()}
        while ahead:
            free = [path for path, needed in ahead.items() if not needed & set(ahead)]
            self.assertTrue(free, ahead)
            ahead = {path: needed for path, needed in ahead.items() if path not in free}

    def test_nothing_of_the_rest_of_python(self):
        barred = (ast.GeneratorExp, ast.AsyncFunctionDef, ast.Await, ast.Lambda, ast.Global, ast.Nonlocal, ast.Div, ast.With,
                  ast.Yield, ast.YieldFrom, ast.NamedExpr, ast.Match, ast.Starred, ast.SetComp, ast.AnnAssign, ast.Assert)
        for place, node in self.nodes(*barred):
            self.fail(f'{place}: {type(node).__name__}')
        for place, node in self.nodes(ast.Constant):
            self.assertNotIsInstance(node.value, (float, complex, bytes), place)
        for place, node in self.nodes(ast.Compare):
            for operator, other in zip(node.ops, node.comparators):
                if isinstance(operator, (ast.Is, ast.IsNot)):
                    self.assertIsInstance(other, ast.Constant, place)
        for place, node in self.nodes(ast.Raise):
            self.assertIsInstance(node.exc, ast.Call, place)
            self.assertTrue(node.exc.func.id in self.own_names(), place)

    def test_only_own_errors_are_caught(self):
        own = {node.name for node in self.trees['oncebooked/errors.py'].body if isinstance(node, ast.ClassDef)}
        for place, node in self.nodes(ast.Try):
            self.assertEqual((node.finalbody, node.orelse), ([], []), place)
            for handler in node.handlers:
                kinds = handler.type.elts if isinstance(handler.type, ast.Tuple) else [handler.type]
                self.assertLessEqual({kind.id for kind in kinds}, own, place)
                read = [part for part in ast.walk(handler) if isinstance(part, ast.Name) and part.id == handler.name]
                values = [part for part in ast.walk(handler) if isinstance(part, ast.Attribute) and part.attr == 'value'
                          and part.value in read]
                self.assertEqual(len(read), len(values), place)

    def test_iterated_at_once(self):
        takers = {'list', 'tuple', 'dict', 'sorted', 'sum', 'any', 'all', 'enumerate', 'zip', 'min', 'max'}
        for path, tree in self.trees.items():
            at_once = set()
            for node in ast.walk(tree):
                if isinstance(node, (ast.For, ast.comprehension)):
                    at_once.add(id(node.iter))
                if isinstance(node, ast.Call) and getattr(node.func, 'id', None) in takers | {'reversed'} and node.args:
                    at_once.update(id(part) for part in node.args[:1 if node.func.id != 'zip' else None])
            for node in ast.walk(tree):
                if not isinstance(node, ast.Call):
                    continue
                name = getattr(node.func, 'id', None) or getattr(node.func, 'attr', None)
                if name in ('range', 'zip', 'enumerate', 'reversed', 'items', 'keys', 'values', 'map'):
                    self.assertIn(id(node), at_once, f'{path}:{node.lineno}')

    def test_what_the_library_tells_is_iterated_at_once(self):
        for path, tree in self.trees.items():
            over = {id(node.iter) for node in ast.walk(tree) if isinstance(node, (ast.For, ast.comprehension))}
            for node in ast.walk(tree):
                if isinstance(node, ast.Call) and getattr(node.func, 'id', None) in LIBRARY['itertools']:
                    self.assertIn(id(node), over, f'{path}:{node.lineno}')

    def test_functions_in_tables_get_a_name_ahead_of_their_call(self):
        for place, node in self.nodes(ast.Call):
            self.assertIsInstance(node.func, (ast.Name, ast.Attribute), place)

    def test_exponents_are_literals(self):
        for place, node in self.nodes(ast.BinOp):
            if isinstance(node.op, ast.Pow):
                self.assertIsInstance(node.right, ast.Constant, place)

    def test_attributes_and_methods_of_a_class(self):
        assigned, methods, properties = set(), set(), set()
        for place, node in self.nodes(ast.ClassDef):
            functions = [part for part in node.body if isinstance(part, ast.FunctionDef)]
            own = {part.attr for part in ast.walk(node) if isinstance(part, ast.Attribute) and isinstance(part.ctx, ast.Store)}
            self.assertFalse(own & {part.name for part in functions}, place)
            self.assertEqual(len(functions), len({part.name for part in functions}), place)
            assigned |= own
            properties |= {part.name for part in functions if part.decorator_list}
            methods |= {part.name for part in functions if not part.decorator_list}
        self.assertFalse(properties & (methods | METHODS | assigned))
        self.assertFalse(assigned & (METHODS - {'count', 'index', 'title', 'find', 'join', 'lower', 'upper', 'split', 'copy'}))
        called = {id(node.func) for _, node in self.nodes(ast.Call)}
        for place, node in self.nodes(ast.Attribute):
            if id(node) not in called:
                self.assertIn(node.attr, assigned | properties, place)

    def test_properties_change_nothing(self):
        for place, node in self.nodes(ast.FunctionDef):
            if node.decorator_list:
                for part in ast.walk(node):
                    self.assertNotIsInstance(part, (ast.Assign, ast.AugAssign, ast.Delete, ast.For), place)

    def test_what_a_loop_goes_over_is_not_changed_in_it(self):
        changing = {'append', 'clear', 'extend', 'insert', 'pop', 'remove', 'reverse', 'setdefault', 'update'}
        for place, node in self.nodes(ast.For):
            over = ast.unparse(node.iter)
            for part in ast.walk(ast.Module(body=node.body, type_ignores=[])):
                if isinstance(part, ast.Call) and isinstance(part.func, ast.Attribute) and part.func.attr in changing:
                    self.assertNotIn(ast.unparse(part.func.value), over, place)
                if isinstance(part, ast.Subscript) and not isinstance(part.ctx, ast.Load):
                    self.assertNotEqual(ast.unparse(part.value), over, place)

    def test_underscore_is_never_read(self):
        for place, node in self.nodes(ast.Name):
            self.assertFalse(node.id == '_' and isinstance(node.ctx, ast.Load), place)

    def test_names(self):
        words = {word for word in dir(builtins) if word != '_'}
        classes = {node.name for _, node in self.nodes(ast.ClassDef)}
        for place, node in self.nodes(ast.Name, ast.arg, ast.FunctionDef, ast.ClassDef):
            name = getattr(node, 'id', None) or getattr(node, 'arg', None) or node.name
            if isinstance(node, ast.Name) and isinstance(node.ctx, ast.Load):
                self.assertTrue(name in BUILTINS or name not in words, place)
                continue
            self.assertFalse(name in words | BARRED, place)
            self.assertTrue(name in SPECIAL or not name.startswith(BARRED_STARTS), place)
            self.assertTrue(isinstance(node, ast.ClassDef) or name not in classes, place)

    def test_imported_names_are_not_used_for_anything_else(self):
        for path, tree in self.trees.items():
            imported = {alias.name for node in tree.body if isinstance(node, ast.ImportFrom) for alias in node.names}
            for node in ast.walk(tree):
                if isinstance(node, ast.arg):
                    self.assertNotIn(node.arg, imported, path)
                if isinstance(node, ast.Name) and isinstance(node.ctx, ast.Store):
                    self.assertNotIn(node.id, imported, path)

    def test_attributes(self):
        own = self.own_names()
        for place, node in self.nodes(ast.Call):
            if isinstance(node.func, ast.Attribute):
                self.assertIn(node.func.attr, METHODS | own, place)
        for place, node in self.nodes(ast.Attribute):
            self.assertNotIn(node.attr, ('sort', 'args', 'format', 'mro', 'register', 'open', 'input'), place)
            self.assertFalse(node.attr.startswith('__'), place)

    def test_sets_are_only_measured(self):
        for path, tree in self.trees.items():
            measured = {id(node.args[0]) for node in ast.walk(tree)
                        if isinstance(node, ast.Call) and getattr(node.func, 'id', None) in ('len', 'sorted') and node.args}
            for node in ast.walk(tree):
                if isinstance(node, ast.Call) and getattr(node.func, 'id', None) == 'set':
                    self.assertIn(id(node), measured, f'{path}:{node.lineno}')
                self.assertNotIsInstance(node, (ast.Set, ast.SetComp), path)

    def test_strings(self):
        barred = re.compile(r'\b(type|typing|enum|Enum|Generic|Protocol|ABC|namedtuple|NamedTuple)\b|dataclass|overload')
        for path, tree in self.trees.items():
            documents = {id(node.body[0].value) for node in ast.walk(tree)
                         if isinstance(node, (ast.Module, ast.ClassDef, ast.FunctionDef)) and ast.get_docstring(node)}
            for node in ast.walk(tree):
                if isinstance(node, ast.Constant) and isinstance(node.value, str) and id(node) not in documents:
                    self.assertNotIn('%', node.value, path)
                    self.assertIsNone(barred.search(node.value), path)
