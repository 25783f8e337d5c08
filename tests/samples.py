"""What the tests share: the house of the document, odd values, and what an error tells."""

import unittest

from ledcalls.errors import LedError

ANN = ('phone', 'ann', 0, 'kept', (((), '', 'bob', 'desk', ''),))
BOB = ('phone', 'bob', 1, 'own', (((), '', '', 'ann', ''), ((0, 1), 'vox', '', 'ann', '')))
DESK = ('group', 'desk', 0, 'kept', 'turns', ('ann', 'bob'), 'vox')
VOX = ('box', 'vox', 1)
HOUSE = (('kept', 'lost'), (('bob', 'vox'),), (ANN, BOB, DESK, VOX))
CALL = ('ann', 9, (ANN[4][0], BOB[4][0]), ('busy', 'unheard'))
KEPT = ('kept', 'kept')


def nested(thing, depth):
    """Return thing within so many tuples, one in the other."""
    for _ in range(depth):
        thing = (thing,)
    return thing


# None of these is a name of the house, a place, a setting, a house, a call, or a part of them.
ODD = (
    None, True, False, -1, 24, 10 ** 59, -10 ** 59, '', ' ', '-', '0', 'Ann', 'ann ', 'nobody',
    'abcdefghi', 'a\nb', [], ['ann'], [1, 2], [None, []], (), ('ann',), ('ann', 'bob'), (1, 2, 3),
    (None, True, [], ()), nested('ann', 30), nested([], 29), [[['ann']]], ((), (), ()),
    (('kept', 'kept'), (), ()), list(HOUSE), list(ANN), list(CALL), (True,) * 4, (0,) * 5)
STRINGS = tuple(thing for thing in ODD if isinstance(thing, str))
NO_STRINGS = tuple(thing for thing in ODD if not isinstance(thing, str))


def phone(name, *settings, side=0, shows='kept'):
    """Return a phone; without settings it leads to nothing."""
    return ('phone', name, side, shows, settings or (((), '', '', '', ''),))


def group(name, *members, side=0, shows='kept', way='turns', after=''):
    """Return a group."""
    return ('group', name, side, shows, way, members, after)


def house(*places, border=KEPT, bars=()):
    """Return the triple of a house."""
    return (border, bars, places)


def error_of(action, /, *things, **named):
    """Return the name of the class of the error that an action raises, and its fields."""
    try:
        action(*things, **named)
    except LedError as error:
        return (error.__class__.__name__, vars(error))
    raise AssertionError('no error was raised')


class Strict(unittest.TestCase):
    """A test case that tells True from 1, and a tuple from a list, at any depth."""

    maxDiff = None

    def assert_same(self, got, wanted):
        self.assertEqual(got, wanted)
        self.assertEqual(repr(got), repr(wanted))

    def assert_unusable(self, word, action, /, *things, **named):
        self.assert_same(error_of(action, *things, **named), ('NotUsable', {'word': word, 'at': -1}))

    def assert_paper(self, word, at, action, /, *things, **named):
        self.assert_same(
            error_of(action, *things, **named), ('InvalidPaper', {'word': word, 'at': at}))

    def assert_text(self, line, field, action, /, *things, **named):
        self.assert_same(
            error_of(action, *things, **named), ('InvalidText', {'line': line, 'field': field}))

    def assert_each_unusable(self, word, odd, action):
        """Each of the odd values makes the action tell of the parameter called word."""
        for thing in odd:
            with self.subTest(word=word, thing=thing):
                self.assert_unusable(word, action, thing)
