"""Points 4, 23 and 24: the checker of calls, each entry of its list, and two at once."""

import unittest

from ledcalls.callchecker import is_call, lets_call
from oracle import all_calls, some_calls
from samples import ANN, BOB, CALL, HOUSE, ODD, VOX, Strict, house, nested

BOOK = CALL[2]


class TestCalls(Strict):

    def assert_none(self, word, at, thing, one=HOUSE):
        with self.subTest(thing=thing):
            self.assert_paper(word, at, lets_call, one, thing)
            self.assert_same(is_call(one, thing), False)

    def test_calls(self):
        for call in all_calls(HOUSE, (0, 23)):
            self.assert_same(is_call(HOUSE, call), True)
            self.assert_same(lets_call(HOUSE, call), sum(standing == 'answers' for standing in call[3]))
        for one, call in some_calls(40, 3, 5):
            self.assert_same(lets_call(one, call), call[3].count('answers'))
        self.assert_same(lets_call(thing=('vox', 0, (), ()), house=house(VOX)), 0)
        self.assert_same(is_call(thing=('vox', 0, (), ()), house=house(VOX)), True)

    def test_shape(self):
        for odd in (*ODD, HOUSE, CALL[:3], (*CALL, ()), list(CALL), (CALL,), *nested(CALL, 2)):
            if not isinstance(odd, tuple) or len(odd) != 4:
                self.assert_none('shape', -1, odd)

    def test_called(self):
        for odd in (*ODD, ANN, HOUSE, 0, ['ann'], 'an'):
            self.assert_none('called', -1, (odd, *CALL[1:]))
            self.assert_none('called', -1, (odd, odd, odd, odd))
        self.assert_none('called', -1, (True,) * 4)

    def test_hour(self):
        for odd in ODD:
            self.assert_none('hour', -1, ('ann', odd, *CALL[2:]))
            self.assert_none('hour', -1, ('ann', odd, odd, odd))

    def test_book(self):
        for odd in (*[thing for thing in ODD if thing != ('ann', 'bob')], list(BOOK), BOOK[:1], (*BOOK, BOOK[0]), 'ab'):
            self.assert_none('book', -1, ('ann', 9, odd, CALL[3]))
            self.assert_none('book', -1, ('ann', 9, odd, None))
        self.assert_none('book', -1, ('vox', 9, (None,), ()), house(VOX))

    def test_setting(self):
        first, second = BOB[4]
        for odd in (
                *ODD, first, second, list(ANN[4][0]), ANN[4], ((), '', 'bob', 'desk', 'x'), ((), '', 'bob', 'desk')):
            self.assert_none('setting', 0, ('ann', 9, (odd, odd), CALL[3]))
            self.assert_none('setting', 0, ('ann', 9, (odd, first), None))
        for odd in (
                *ODD, ANN[4][0], list(second), ((False, True), *second[1:]), ((0, True), *second[1:]),
                ((False, 1), *second[1:]), ([0, 1], *second[1:]), (second,), ((0,), *second[1:]), 0, 1):
            self.assert_none('setting', 1, ('ann', 9, (ANN[4][0], odd), CALL[3]))
            self.assert_none('setting', 1, ('ann', 9, (ANN[4][0], odd), None))
        for good in (first, second):
            self.assert_same(is_call(HOUSE, ('ann', 9, (ANN[4][0], good), CALL[3])), True)

    def test_standings(self):
        for odd in (*[thing for thing in ODD if thing != ('ann', 'bob')], ['off', 'off'], ('off',), ('off',) * 3):
            self.assert_none('standings', -1, (*CALL[:3], odd))
        self.assert_none('standings', -1, ('vox', 9, (), ('off',)), house(VOX))

    def test_standing(self):
        for odd in (*ODD, 'Off', 'answered', 'hours', 'answers ', ['off'], ('off',), 0, 'boxed'):
            self.assert_none('standing', 0, (*CALL[:3], (odd, 'off')))
            self.assert_none('standing', 0, (*CALL[:3], (odd, odd)))
            self.assert_none('standing', 1, (*CALL[:3], ('unheard', odd)))

    def test_the_house_is_judged_first(self):
        for odd in (*ODD, HOUSE[:2], house(BOB, VOX)):
            for thing in (CALL, None, ODD):
                self.assert_unusable('house', is_call, odd, thing)
                self.assert_unusable('house', lets_call, odd, thing)


if __name__ == '__main__':
    unittest.main()
