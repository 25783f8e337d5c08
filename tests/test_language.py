"""The rules L1 to L28, as far as a test can see them."""

import ast
import importlib
import pathlib
import re
import unittest

from language import PACKAGE, faults_in
from ledcalls import errors

FOLDER = pathlib.Path(errors.__file__).parent
FILES = sorted(FOLDER.glob('*.py'))
# The interface: for each module its names, and the parameters of each.
INTERFACE = {
    'kinds': {name: ('thing',) for name in (
        'is_integer', 'is_number', 'is_name', 'is_hour', 'is_hours', 'is_border', 'is_setting', 'is_place')},
    'housechecker': {'is_house': ('thing',), 'lets_house': ('thing',)},
    'houseparts': {
        'names_in': ('house',), 'phones_in': ('house',), 'place_of': ('house', 'name'),
        'settings_of': ('house', 'name'), 'phones_of': ('house', 'name'), 'side_of': ('house', 'name'),
        'leads_of': ('house', 'hour'), 'come_to': ('house', 'name', 'hour')},
    'housechanges': {
        'with_place': ('house', 'place', '*', 'spot'), 'without_place': ('house', 'name'),
        'with_settings': ('house', 'name', 'settings'), 'without_settings': ('house', 'taken'),
        'with_bars': ('house', 'bars'), 'with_border': ('house', 'border'), 'moved': ('house', 'name', 'side'),
        'renamed': ('house', 'old', 'new')},
    'housereadings': {'read_place': ('text', '*', 'line'), 'read_house': ('text',)},
    'housetexts': {'place_text': ('place',), 'house_text': ('house',)},
    'callchecker': {'is_call': ('house', 'thing'), 'lets_call': ('house', 'thing')},
    'courses': {
        'course_of': ('house', 'call'), 'rung_in': ('house', 'call'), 'told_caller': ('house', 'call'),
        'counts_in': ('house', 'call'), 'is_good': ('house', 'call'), 'is_cut': ('house', 'call', 'limit')},
    'harmshows': {'harms_shown': ('house', 'call')},
    'callreadings': {'read_call': ('house', 'text')},
    'callseen': {'books_of': ('house',), 'calls_to': ('house', 'called', 'hour')},
    'calltexts': {'call_text': ('house', 'call')},
    'pictures': {'call_picture': ('house', 'call')},
    'rings': {'rings_of': ('house', 'hour'), 'can_round': ('house', 'called', '*', 'hours')},
    'numbers': {'falling_numbers': ('house', 'called', 'hour'), 'most_amid': ('house', 'called', 'hour')},
    'roundchecker': {
        'lets_numbers': ('house', 'called', 'hour', 'thing'), 'lets_round': ('house', 'called', 'thing')},
    'roundpapers': {'round_paper': ('house', 'called')},
    'harms': {
        'harms_of': ('house', 'called'), 'harm_call': ('house', 'called', 'harm'), 'is_harmless': ('house', '*', 'harms'),
        'ends_of': ('house', 'called'), 'end_call': ('house', 'called', 'end')},
    'harmchecker': {'lets_harm': ('house', 'called', 'harm', 'thing')},
    'limits': {
        'most_hops': ('house', 'called'), 'longest_call': ('house', 'called'), 'least_limit': ('house',),
        'sure_limit': ('house',), 'cut_call': ('house', 'limit'), 'uncut_call': ('house', 'limit')},
    'limitchecker': {'lets_unsure': ('house', 'thing')},
    'limitpapers': {'unsure_paper': ('house',)},
    'takings': {
        'least_taken': ('house', 'given', '*', 'harms'), 'greatest_left': ('house', 'given', '*', 'harms')},
    'takingchecker': {'lets_taking': ('house', 'thing')},
    'takingpapers': {'taking_paper': ('house', 'taken')},
    'within': {'is_within': ('house', 'other')},
    'backs': {
        'ends_back': ('house', 'called', 'rung', '*', 'hour'), 'call_back': ('house', 'called', 'rung', '*', 'hour')},
    'boardevents': {'is_event': ('thing',)},
    'boards': {'rehearsed': ('board', '*events')},
    'boardlogs': {'is_story': ('thing',), 'replayed': ('story',)},
    'boardtexts': {'event_line': ('event',), 'story_lines': ('story',)},
    'boardreadings': {'read_event': ('text',), 'read_story': ('lines',)},
}
# For each class of the interface its file, its base class, and the methods and properties that stand in it.
CLASSES = {
    'House': ('houseclasses', 'object', (
        '__init__ of read border_now bars_now places_now form_now names_now __getitem__ __call__ __contains__ __len__ __iter__ __str__ __eq__ '
        '__le__ __add__ ahead __sub__ __mod__ choosing barring bordered shifted naming')),
    'Chosen': ('houseclasses', 'House', '__init__ source_now book_now'),
    'Call': ('callclasses', 'object', (
        '__init__ of read house_now called_now hour_now book_now standings_now call_now course_now rung_now harms_now at_hour to with_setting '
        'with_standing __mod__ __add__ __getitem__ __contains__ __len__ __eq__ __str__')),
    'Harmless': ('callclasses', 'Call', '__init__'),
    'Harms': ('harmclasses', 'object', (
        '__init__ house_now feared_now table_now harmless_now __getitem__ __call__ __contains__ __len__ __iter__ __str__ __eq__ __le__ without')),
    'Feared': ('harmclasses', 'Harms', '__init__'),
    'Board': ('boards', 'object', (
        '__init__ MOST house_now limit_now hour_now book_now standings_now ends_now at_now count_now told_now rung_now happen set_hour choose '
        'stand place_call hop drop mark __iadd__ barred tried trial undo do_all counts course_to ended_since tally table story __getitem__ '
        '__contains__ __len__ __iter__ __eq__')),
    'Desk': ('desks', 'object', '__init__ say counts'),
}
MORE_BAD = {
    'L15': 'T = {"a": 1}\ndef f(x):\n    return x(T)',
    'L6': 'class A:\n    def __exit__(self, *told):\n        self.shut(told)',
}
BAD = {
    'L10': 'def f():\n' + '    pass\n' * 40, 'L14': '# \u00e9', 'L2': 'from os import path', 'L16': 'import ledcalls',
    'L3': 'N = len("a")', 'L4': 'def f(x=len("a")):\n    pass', 'L5': 'def f(x):\n    return sorted(x)',
    'L6': 'def f(x):\n    x += 1', 'L7': 'def f(x):\n    return x / 2', 'L8': 'def f(x):\n    return hash(x)',
    'L12': 'def __f():\n    pass', 'L15': 'def f(min):\n    pass', 'L17': 'def f(open):\n    pass',
    'L19': 'def f():\n    try:\n        pass\n    except ValueError:\n        pass',
    'L20': 'def f(x):\n    return x is 3', 'L21': 'def f(x: int):\n    pass', 'L23': 'def f(x):\n    for y in x:\n        x.pop()',
    'L25': 'def f(x):\n    x.sort()', 'L27': 'N = "50%"', 'L18': 'class A:\n    def f(self):\n        pass\n    def f(self):\n        pass',
}


def tree_of(path):
    return ast.parse(path.read_text())


def modules_of(tree):
    return [node.module for node in ast.walk(tree) if isinstance(node, ast.ImportFrom)]


def parameters_of(code):
    """The names of the parameters; a star stands before those by name only, or is that of any number of them."""
    many, late = code.co_argcount, code.co_kwonlyargcount
    names, stars = code.co_varnames[:many + late], ()
    if code.co_flags & 4:
        stars = ('*' + code.co_varnames[many + late],)
    elif late:
        stars = ('*',)
    return (*names[:many], *stars, *names[many:])


class TestLanguage(unittest.TestCase):

    def test_the_checks_see_what_breaks_a_rule(self):
        for rule, source in [*BAD.items(), *MORE_BAD.items()]:
            self.assertIn(rule, [rule for _, rule in faults_in(source)])

    def test_files(self):
        for path in FOLDER.iterdir():
            if path.name != '__pycache__':
                self.assertTrue(path.is_file() and re.fullmatch('[a-z0-9]+[.]py|__init__[.]py', path.name), path)
        self.assertIn(FOLDER / '__init__.py', FILES)
        self.assertLessEqual(len(FILES), 100)
        self.assertEqual(FOLDER.name, PACKAGE)

    def test_each_file(self):
        for path in FILES:
            with self.subTest(path=path.name):
                self.assertEqual(faults_in(path.read_text()), [])

    def test_imports_name_the_file_that_defines_the_name(self):
        for path in FILES:
            for node in ast.walk(tree_of(path)):
                if isinstance(node, ast.ImportFrom):
                    other = tree_of(FOLDER / (node.module.split('.')[1] + '.py'))
                    defined = [part.name for part in other.body if isinstance(part, (ast.FunctionDef, ast.ClassDef))]
                    defined += [part.targets[0].id for part in other.body if isinstance(part, ast.Assign)]
                    for alias in node.names:
                        self.assertIn(alias.name, defined, path.name)
                        self.assertFalse(alias.name.startswith('_'), path.name)

    def test_no_two_files_import_from_each_other(self):
        needs = {f'{PACKAGE}.{path.stem}': modules_of(tree_of(path)) for path in FILES}
        while needs:
            free = [name for name, others in needs.items() if not any(other in needs for other in others)]
            self.assertTrue(free, needs)
            needs = {name: others for name, others in needs.items() if name not in free}

    def test_calls_of_generators_are_iterated_at_once(self):
        nodes = [node for path in FILES for node in ast.walk(tree_of(path))]
        made = [node for node in nodes if isinstance(node, ast.FunctionDef)]
        generators = {
            node.name for node in made if any(isinstance(part, (ast.Yield, ast.YieldFrom)) for part in ast.walk(node))}
        self.assertEqual(len([node for node in made if node.name in generators]), len(generators))
        iterated = {id(node.iter) for node in nodes if isinstance(node, (ast.For, ast.comprehension))}
        iterated |= {id(node.value) for node in nodes if isinstance(node, ast.YieldFrom)}
        for node in nodes:
            if isinstance(node, ast.Call) and isinstance(node.func, ast.Name) and node.func.id in generators:
                self.assertIn(id(node), iterated, node.func.id)
                self.assertTrue(all(isinstance(part, ast.Name) for part in node.args), node.func.id)
        called = {id(node.func) for node in nodes if isinstance(node, ast.Call)}
        for node in nodes:
            if isinstance(node, ast.Name) and node.id in generators:
                self.assertIn(id(node), called, node.id)

    def test_methods_that_are_called(self):
        own = {node.name for path in FILES for node in ast.walk(tree_of(path)) if isinstance(node, ast.FunctionDef)}
        allowed = own | set('append extend pop split join get index count items values partition'.split())
        for path in FILES:
            for node in ast.walk(tree_of(path)):
                if isinstance(node, ast.Call) and isinstance(node.func, ast.Attribute):
                    self.assertIn(node.func.attr, allowed, path.name)

    def test_attributes_that_are_read_are_assigned(self):
        trees = [tree_of(path) for path in FILES]
        nodes = [node for tree in trees for node in ast.walk(tree)]
        assigned = {
            node.attr for node in nodes if isinstance(node, ast.Attribute) and isinstance(node.ctx, ast.Store)}
        assigned |= {
            part.targets[0].id for node in nodes if isinstance(node, ast.ClassDef)
            for part in node.body if isinstance(part, ast.Assign)}
        called = {id(node.func) for node in nodes if isinstance(node, ast.Call)}
        own = {node.name for node in nodes if isinstance(node, ast.FunctionDef)}
        for node in nodes:
            if isinstance(node, ast.Attribute) and isinstance(node.ctx, ast.Load) and id(node) not in called:
                self.assertIn(node.attr, assigned | own)
        self.assertFalse(assigned & own)


class TestInterface(unittest.TestCase):

    def test_functions_stand_in_their_files_with_their_parameters(self):
        for name, functions in INTERFACE.items():
            module = importlib.import_module(f'{PACKAGE}.{name}')
            for function, wanted in functions.items():
                made = getattr(module, function)
                self.assertEqual(made.__module__, module.__name__)
                code = made.__code__
                self.assertEqual(parameters_of(code), wanted, function)

    def test_classes_stand_in_their_files_with_their_methods(self):
        for name, (file, base, methods) in CLASSES.items():
            made = getattr(importlib.import_module(f'{PACKAGE}.{file}'), name)
            self.assertEqual((made.__module__, made.__bases__[0].__name__), (f'{PACKAGE}.{file}', base))
            for method in methods.split():
                self.assertIn(method, vars(made))

    def test_parameters_of_the_methods_of_boards_and_desks(self):
        board, desk = [importlib.import_module(f'{PACKAGE}.{file}') for file in ('boards', 'desks')]
        wanted = {
            '__init__': ('house', '*', 'limit'), 'happen': ('event',), 'set_hour': ('hour',), 'choose': ('name', 'setting'), 'stand': ('name', 'standing'),
            'place_call': ('name',), 'hop': (), 'drop': (), 'mark': ('name',), 'barred': ('event',), 'tried': ('*events',), 'trial': (), 'undo': (),
            'do_all': ('*events', 'keep'), 'counts': (), 'course_to': ('name',), 'ended_since': ('name',), 'tally': (), 'table': (), 'story': ()}
        for name, parameters in wanted.items():
            self.assertEqual(parameters_of(vars(board.Board)[name].__code__), ('self', *parameters), name)
        for name, parameters in {'__init__': ('house',), 'say': ('row',), 'counts': ()}.items():
            self.assertEqual(parameters_of(vars(desk.Desk)[name].__code__), ('self', *parameters), name)


if __name__ == '__main__':
    unittest.main()
