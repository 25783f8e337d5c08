"""What can be seen of the rules L1 to L28 in a file: each check yields the rule and the line."""

import ast
import builtins
import re

PACKAGE = 'ledcalls'
STATEMENTS = (
    ast.Assign, ast.If, ast.While, ast.For, ast.Return, ast.Break, ast.Continue, ast.Pass, ast.Raise, ast.Assert,
    ast.Delete, ast.Nonlocal, ast.Match, ast.With, ast.Try, ast.Expr, ast.FunctionDef, ast.ClassDef, ast.ImportFrom)
BUILTINS = set(
    'len range enumerate zip min max sum abs sorted reversed int str bool bytes list tuple dict set frozenset '
    'isinstance ord repr any all divmod iter next super property staticmethod classmethod Exception ValueError '
    'TypeError KeyError IndexError LookupError ZeroDivisionError ArithmeticError OverflowError RuntimeError '
    'NotImplementedError AttributeError StopIteration NotImplemented'.split())
DUNDERS = set('__' + name + '__' for name in (
    'init eq repr str len enter exit call iter lt le gt ge ne add sub mul floordiv mod pow and or xor lshift rshift '
    'neg pos invert abs bool contains getitem setitem iadd isub imul').split())
METHODS = set(
    'append clear copy count endswith extend find get index insert isalnum isalpha isdigit islower isspace isupper '
    'items join keys ljust lower lstrip partition pop remove replace reverse rfind rjust rpartition rsplit rstrip '
    'setdefault split splitlines startswith strip update upper values zfill bit_length'.split())
NOWHERE = set('register mro elements open input law version_info with_traceback add_note'.split())
NO_NAMES = set(
    'attrgetter breakpoint builtins compile copyright credits delattr dir eval exec exit gc getattr globals hasattr '
    'help id importlib license locals methodcaller os quit setattr sys type vars format __name__'.split())
NO_WORDS = set(
    'type typing typing_extensions enum Enum IntEnum StrEnum Flag IntFlag Generic Protocol ABC ABCMeta namedtuple '
    'NamedTuple TypedDict TYPE_CHECKING abstractmethod'.split())
DECORATORS = ('property', 'staticmethod', 'classmethod')


def faults_in(source):
    """Return a sorted list of the pairs of line and rule that a file breaks."""
    tree = ast.parse(source)
    checks = (
        characters, imports, module_level, functions, classes, statements, expressions, names, calls, literals,
        bindings, tables, ends_of_with)
    return sorted({fault for check in checks for fault in check(tree, source)})


def characters(tree, source):
    rows = source.split('\n')
    if len(rows) > 400:
        yield (len(rows), 'L10')
    for k, row in enumerate(rows, start=1):
        if len(row) > 120:
            yield (k, 'L10')
        if re.search('[^ -~]', row):
            yield (k, 'L14')
        if '_wall' in row or '_WallAttr' in row:
            yield (k, 'L12')
        if '(type)' in row or 'Meta' in row or 'metaclass=' in row:
            yield (k, 'L17')


def imports(tree, source):
    head = True
    for node in tree.body:
        is_import = isinstance(node, (ast.Import, ast.ImportFrom))
        if is_import and not head:
            yield (node.lineno, 'L2')
        head = head and (is_import or isinstance(node, ast.Expr))
    for node in ast.walk(tree):
        if isinstance(node, ast.Import):
            yield (node.lineno, 'L16')
        if isinstance(node, ast.ImportFrom):
            plain = node.level == 0 and node.module.split('.')[0] == PACKAGE
            if not plain or node not in tree.body or any(alias.asname or alias.name == '*' for alias in node.names):
                yield (node.lineno, 'L2')


def is_plain(node):
    try:
        ast.literal_eval(node)
    except ValueError:
        return False
    return True


def is_table(node, above):
    """Whether a dict has plain keys, and functions that are defined above as its values."""
    if not isinstance(node, ast.Dict) or not all(key is not None and is_plain(key) for key in node.keys):
        return False
    return all(isinstance(value, ast.Name) and value.id in above for value in node.values)


def module_level(tree, source):
    above = set()
    for node in tree.body:
        if isinstance(node, ast.FunctionDef):
            above.add(node.name)
        if isinstance(node, ast.Assign):
            one = len(node.targets) == 1 and isinstance(node.targets[0], ast.Name)
            if not one or not (is_plain(node.value) or is_table(node.value, above)):
                yield (node.lineno, 'L3')
            elif isinstance(node.value, (ast.List, ast.Tuple, ast.Dict)):
                for part in ast.walk(node.value):
                    if part is not node.value and isinstance(part, (ast.List, ast.Dict)):
                        yield (part.lineno, 'L15')
        elif isinstance(node, ast.Expr):
            if node is not tree.body[0] or not isinstance(node.value, ast.Constant):
                yield (node.lineno, 'L3')
        elif not isinstance(node, (ast.ImportFrom, ast.FunctionDef, ast.ClassDef)):
            yield (node.lineno, 'L3')


def functions(tree, source):
    constants = [
        alias.name for node in tree.body if isinstance(node, ast.ImportFrom)
        for alias in node.names if alias.name.isupper()]
    for node in ast.walk(tree):
        if isinstance(node, ast.FunctionDef):
            if node.end_lineno - node.lineno + 1 > 40:
                yield (node.lineno, 'L10')
            for default in [*node.args.defaults, *[one for one in node.args.kw_defaults if one]]:
                if not is_plain(default) and not (isinstance(default, ast.Name) and default.id in constants):
                    yield (default.lineno, 'L4')
            for decorator in node.decorator_list:
                setter = isinstance(decorator, ast.Attribute) and decorator.attr == 'setter'
                if not setter and not (isinstance(decorator, ast.Name) and decorator.id in DECORATORS):
                    yield (node.lineno, 'L4')
            named = node.args.posonlyargs + node.args.args + node.args.kwonlyargs
            if node.returns or any(argument.annotation for argument in named):
                yield (node.lineno, 'L21')
    for node in tree.body:
        if isinstance(node, ast.FunctionDef) and (node.decorator_list or node.name.startswith('__')):
            yield (node.lineno, 'L4')


def classes(tree, source):
    for node in ast.walk(tree):
        if isinstance(node, ast.ClassDef):
            if node not in tree.body:
                yield (node.lineno, 'L15')
            if node.decorator_list or node.keywords:
                yield (node.lineno, 'L5')
            methods = [part for part in node.body if isinstance(part, ast.FunctionDef)]
            listed = [method.name for method in methods]
            if '__getitem__' in listed and '__iter__' not in listed:
                yield (node.lineno, 'L5')
            for method in methods:
                if method.name.startswith('__') and method.name not in DUNDERS:
                    yield (method.lineno, 'L5')
                if listed.count(method.name) > 1 and not method.decorator_list:
                    yield (method.lineno, 'L18')
            for part in node.body:
                value = isinstance(part, ast.Assign) and is_plain(part.value)
                text = isinstance(part, ast.Expr) and isinstance(part.value, ast.Constant)
                if not value and not text and not isinstance(part, (ast.FunctionDef, ast.Pass)):
                    yield (part.lineno, 'L5')


def statements(tree, source):
    for node in ast.walk(tree):
        if isinstance(node, ast.stmt) and not isinstance(node, STATEMENTS):
            # Neither += nor an annotation is needed, and += may not stand beside __iadd__.
            yield (node.lineno, 'L6')
        if isinstance(node, ast.ExceptHandler):
            own = isinstance(node.type, ast.Name) and node.type.id not in vars(builtins)
            if not own:
                yield (node.lineno, 'L19')
        if isinstance(node, ast.Raise) and node.exc is not None:
            if not isinstance(node.exc, ast.Call) or not isinstance(node.exc.func, ast.Name):
                yield (node.lineno, 'L19')
        if isinstance(node, ast.Expr) and not isinstance(node.value, (ast.Call, ast.Constant, ast.Yield, ast.YieldFrom)):
            yield (node.lineno, 'L6')
        if isinstance(node, ast.For) and isinstance(node.iter, ast.Name):
            for part in ast.walk(node):
                if isinstance(part, ast.Call) and isinstance(part.func, ast.Attribute):
                    changed = part.func.attr in ('append', 'extend', 'pop', 'remove', 'insert', 'clear', 'update')
                    if changed and isinstance(part.func.value, ast.Name) and part.func.value.id == node.iter.id:
                        yield (part.lineno, 'L23')


def expressions(tree, source):
    barred = (
        ast.Lambda, ast.Await, ast.NamedExpr, ast.Set, ast.SetComp, ast.GeneratorExp, ast.Div, ast.MatMult)
    for node in ast.walk(tree):
        if isinstance(node, barred):
            # Sets, lambdas, generator expressions and := are allowed in places; none is needed.
            yield (getattr(node, 'lineno', 0), 'L7')
        if isinstance(node, ast.Compare):
            for operator, other in zip(node.ops, node.comparators):
                if isinstance(operator, (ast.Is, ast.IsNot)):
                    if not isinstance(other, ast.Constant) or other.value not in (None, True, False):
                        yield (node.lineno, 'L20')
        if isinstance(node, ast.BinOp) and isinstance(node.op, ast.Pow):
            if not isinstance(node.right, ast.Constant):
                yield (node.lineno, 'L27')
        if isinstance(node, ast.Attribute):
            if node.attr.startswith('__') and node.attr != '__init__':
                yield (node.lineno, 'L8')


def names(tree, source):
    for node in ast.walk(tree):
        found = []
        if isinstance(node, ast.Name):
            found = [node.id]
            if isinstance(node.ctx, ast.Load):
                if node.id == '_':
                    yield (node.lineno, 'L12')
                if node.id in vars(builtins) and node.id not in BUILTINS:
                    yield (node.lineno, 'L8')
        if isinstance(node, ast.arg):
            found = [node.arg]
        if isinstance(node, (ast.FunctionDef, ast.ClassDef)):
            found = [node.name]
        if isinstance(node, ast.Attribute):
            found = [node.attr] if node.attr in NOWHERE else []
        for name in found:
            if name in NOWHERE or name in NO_NAMES:
                yield (node.lineno, 'L17')
            if not re.fullmatch('_|_?[A-Za-z][A-Za-z0-9_]*', name) and name not in DUNDERS:
                yield (node.lineno, 'L12')


def calls(tree, source):
    for node in ast.walk(tree):
        if isinstance(node, ast.Call):
            name = node.func.id if isinstance(node.func, ast.Name) else None
            if name in ('sorted', 'min', 'max', 'print', 'set', 'frozenset', 'bytes', 'chr', 'map', 'filter'):
                # Beside a class with an order, sorted, min and max take plain numbers and strings alone.
                yield (node.lineno, 'L5')
            if name == 'isinstance' and isinstance(node.args[1], ast.Call):
                yield (node.lineno, 'L22')
            if name in ('any', 'all', 'sum') and not isinstance(node.args[0], (ast.ListComp, ast.Name)):
                yield (node.lineno, 'L7')
            if isinstance(node.func, ast.Attribute) and node.func.attr == 'sort':
                yield (node.lineno, 'L25')
            if isinstance(node.func, ast.Attribute) and node.func.attr in METHODS and node.keywords:
                yield (node.lineno, 'L25')
            if not isinstance(node.func, (ast.Name, ast.Attribute)):
                yield (node.lineno, 'L7')
            if name == 'iter' and not isinstance(node.args[0], ast.Attribute):
                yield (node.lineno, 'L8')


def literals(tree, source):
    documented = [
        node.body[0].value for node in ast.walk(tree)
        if isinstance(node, (ast.Module, ast.FunctionDef, ast.ClassDef))
        and node.body and isinstance(node.body[0], ast.Expr)]
    for node in ast.walk(tree):
        if isinstance(node, ast.Constant):
            if isinstance(node.value, (float, complex, bytes)) or node.value is Ellipsis:
                yield (node.lineno, 'L7')
            if isinstance(node.value, str):
                if '%' in node.value or node.value.endswith(('._', '.__')):
                    yield (node.lineno, 'L27')
                if re.fullmatch('__.*__', node.value):
                    yield (node.lineno, 'L27')
                if node not in documented and NO_WORDS & set(re.findall(r'\w+', node.value)) - {'type'}:
                    yield (node.lineno, 'L17')
    for k, row in enumerate(source.split('\n'), start=1):
        if re.search('dataclass|overload|contextmanager', row):
            yield (k, 'L17')


def bound_names(node):
    """The names that a function binds, its parameters included."""
    for part in ast.walk(node):
        if isinstance(part, ast.Name) and isinstance(part.ctx, (ast.Store, ast.Del)):
            yield part.id
        if isinstance(part, ast.arg):
            yield part.arg
        if isinstance(part, ast.ExceptHandler) and part.name:
            yield part.name
        if isinstance(part, ast.FunctionDef) and part is not node:
            yield part.name


def bindings(tree, source):
    top = []
    for node in tree.body:
        if isinstance(node, ast.ImportFrom):
            top.extend([(alias.name, node.lineno) for alias in node.names])
        if isinstance(node, (ast.FunctionDef, ast.ClassDef)):
            top.append((node.name, node.lineno))
        if isinstance(node, ast.Assign) and isinstance(node.targets[0], ast.Name):
            top.append((node.targets[0].id, node.lineno))
    listed = [name for name, _ in top]
    for name, line in top:
        if listed.count(name) > 1 or name in vars(builtins):
            yield (line, 'L15')
        used = [node for node in ast.walk(tree) if isinstance(node, ast.Name) and node.id == name]
        if name.startswith('_') and not any(isinstance(node.ctx, ast.Load) for node in used):
            yield (line, 'not used')
    imported = [alias.name for node in tree.body if isinstance(node, ast.ImportFrom) for alias in node.names]
    for name in imported:
        if not any(isinstance(node, ast.Name) and node.id == name for node in ast.walk(tree)):
            yield (1, 'not used')
    named = {node.name for node in tree.body if isinstance(node, (ast.ClassDef, ast.FunctionDef))}
    for node in ast.walk(tree):
        if isinstance(node, ast.FunctionDef):
            for name in bound_names(node):
                if name in imported or name in named or name in vars(builtins):
                    yield (node.lineno, 'L15')


def tables(tree, source):
    """What stands in capitals and is no tuple is only read: by an index, in, a loop or a few functions."""
    made = {node.targets[0].id: node.value for node in tree.body if isinstance(node, ast.Assign)}
    bound = {name for name, value in made.items() if isinstance(value, (ast.List, ast.Dict))}
    # Tuples are free; of an imported name only this list tells that it is one.
    plain = {'HARMS', 'HOURS', 'STANDINGS', 'WAYS', 'PAST_FIRST', 'RUNG_FIRST', 'HOUR_WORDS', 'FIRST_MEMBER'}
    for node in tree.body:
        if isinstance(node, ast.ImportFrom):
            bound |= {alias.name for alias in node.names if alias.name.isupper()} - plain
    fit = set()
    for node in ast.walk(tree):
        if isinstance(node, ast.Subscript):
            fit.add(id(node.value))
        if isinstance(node, ast.Compare) and isinstance(node.ops[0], (ast.In, ast.NotIn)):
            fit.add(id(node.comparators[0]))
        if isinstance(node, (ast.For, ast.comprehension)):
            fit.add(id(node.iter))
        if isinstance(node, ast.Call) and isinstance(node.func, ast.Attribute) and node.func.attr == 'get':
            fit.add(id(node.func.value))
        if isinstance(node, ast.Call) and isinstance(node.func, ast.Name) and node.func.id in ('len', 'list', 'dict'):
            fit |= {id(part) for part in node.args}
    for node in ast.walk(tree):
        if isinstance(node, ast.Name) and node.id in bound and isinstance(node.ctx, ast.Load) and id(node) not in fit:
            yield (node.lineno, 'L15')


def ends_of_with(tree, source):
    """The rows of __exit__ are assignments of attributes to attributes; nothing ends by finally."""
    for node in ast.walk(tree):
        if isinstance(node, ast.Try) and node.finalbody:
            yield (node.lineno, 'L6')
        if isinstance(node, ast.FunctionDef) and node.name == '__exit__':
            for part in node.body:
                plain = isinstance(part, ast.Assign) and len(part.targets) == 1
                if not plain or not isinstance(part.targets[0], ast.Attribute) or not isinstance(part.value, ast.Attribute):
                    yield (part.lineno, 'L6')
            if any(isinstance(part, ast.Name) and part.id != 'self' for part in ast.walk(node)):
                yield (node.lineno, 'L6')
