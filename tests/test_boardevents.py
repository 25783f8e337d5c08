"""Points 59 and 60: events by form."""

import unittest

from ledcalls.boardevents import is_event
from samples import ANN, BOB, CALL, HOUSE, ODD, Strict, nested

PLAIN = ((), '', '', '', '')
FULL = ((0, 5, 23), 'a', 'b', 'c', 'abcdefgh')
STANDINGS = ('answers', 'unheard', 'busy', 'off')
NO_NAMES = ('', '-', 'Ann', 'ann ', 'abcdefghi', 'a1', 'a\nb', None, True, 0, 1, (), ('ann',), ['ann'], ANN)
NO_SETTINGS = (
    None, True, 0, '', 'off', (), [], list(PLAIN), PLAIN[:4], (*PLAIN, ''), ([], '', '', '', ''), ((), 'a', '', '', ''), ((3,), '', '', '', ''),
    ((24,), 'a', '', '', ''), ((True,), 'a', '', '', ''), ((0, True), 'a', '', '', ''), ((5, 3), 'a', '', '', ''), ((3, 3), 'a', '', '', ''),
    ((), '', None, '', ''), ((), '', '', 'A', ''), ((), '', '', '', ('a',)), ((), '', '', '', '-'), ((-1,), 'a', '', '', ''), (PLAIN,), ANN, BOB[4])
NO_STANDINGS = (None, True, 0, '', 'Off', 'off ', 'answered', 'dropped', 'together', (), ('off',), ['off'], PLAIN, 'off\n', 'of')
NO_HOURS = (None, True, False, -1, 24, 10 ** 59, '', '0', '9', (), (9,), [9], -10 ** 59)
GOOD = (
    *(('hour', hour) for hour in range(24)), ('set', 'ann', PLAIN), ('set', 'nobody', FULL), ('set', 'off', ((1,), 'x', '', '', '')),
    *(('stand', 'ann', standing) for standing in STANDINGS), ('stand', 'stand', 'off'), ('call', 'ann'), ('call', 'abcdefgh'), ('call', 'hop'),
    ('hop',), ('drop',), ('mark', 'm'), ('mark', 'hour'))


class TestEvents(Strict):

    def assert_none(self, thing):
        with self.subTest(thing=thing):
            self.assert_same(is_event(thing), False)

    def test_events(self):
        for thing in GOOD:
            with self.subTest(thing=thing):
                self.assert_same(is_event(thing), True)
        self.assert_same(is_event(thing=('hop',)), True)

    def test_other_values(self):
        for thing in (*ODD, HOUSE, CALL, 'hop', b'hop', ['hop'], ('Hop',), ('hop ',), (None,), (True,), (0,), (['hop'],), (('hop',),), nested('hop', 30),
                      ('undo',), ('board', HOUSE, None), ('round',), ('answers', 'ann'), ('',), ('', 'ann'), (HOUSE,), ('h', 'o', 'p')):
            self.assert_none(thing)

    def test_how_many_elements(self):
        for event in GOOD:
            self.assert_none(event[:-1])
            for more in ('', None, 0, 'ann', PLAIN):
                self.assert_none((*event, more))
            self.assert_none(list(event))
            self.assert_none((event,))

    def test_words_need_what_is_theirs(self):
        for word in ('hour', 'set', 'stand', 'call', 'mark'):
            self.assert_none((word,))
        for thing in (('hour', 'ann'), ('call', 9), ('mark', 9), ('set', 'ann', 'off'), ('stand', 'ann', PLAIN), ('hop', 'ann'), ('drop', 'ann'),
                      ('hop', None), ('hour', 9, 9), ('call', 'ann', 'ann'), ('mark', 'm', 'm')):
            self.assert_none(thing)

    def test_hours(self):
        for odd in NO_HOURS:
            self.assert_none(('hour', odd))

    def test_names(self):
        for odd in NO_NAMES:
            for event in (('set', odd, PLAIN), ('stand', odd, 'off'), ('call', odd), ('mark', odd)):
                self.assert_none(event)

    def test_settings_and_standings(self):
        for odd in NO_SETTINGS:
            self.assert_none(('set', 'ann', odd))
        for odd in NO_STANDINGS:
            self.assert_none(('stand', 'ann', odd))


if __name__ == '__main__':
    unittest.main()
