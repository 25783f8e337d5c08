"""Points 2, 23 and 29: all books, and all calls to a place in an hour."""

import itertools
import unittest

from ledcalls.callchecker import is_call
from ledcalls.callseen import books_of, calls_to
from oracle import all_calls, many_calls, small_houses
from samples import ANN, BOB, HOUSE, ODD, VOX, Strict, group, house, phone

BUSY = ((), '', 'vox', '', '')
OFF = ((), '', '', '', 'vox')
PLAIN = ((), '', '', '', '')
TWO = phone('two', *sorted((BUSY, OFF)))
THREE = phone('three', *sorted((BUSY, OFF, PLAIN)))
ORDER = ('answers', 'busy', 'off', 'unheard')


def first_of(generator):
    """Ask for the first result alone."""
    return next(generator)


class TestBooks(Strict):

    def test_no_phone(self):
        self.assert_same(list(books_of(house(VOX))), [()])
        self.assert_same(list(books_of(house(VOX, ('box', 'a', 0)))), [()])

    def test_one_two_and_three_phones(self):
        self.assert_same(list(books_of(house(phone('a')))), [(PLAIN,)])
        self.assert_same(list(books_of(house(THREE, VOX))), [(PLAIN,), (OFF,), (BUSY,)])
        self.assert_same(
            list(books_of(house(TWO, VOX, THREE))),
            [(OFF, PLAIN), (OFF, OFF), (OFF, BUSY), (BUSY, PLAIN), (BUSY, OFF), (BUSY, BUSY)])
        self.assert_same(
            list(books_of(house(phone('a'), TWO, group('g', 'a'), VOX, phone('b', OFF)))),
            [(PLAIN, OFF, OFF), (PLAIN, BUSY, OFF)])
        self.assert_same(list(books_of(HOUSE)), [(ANN[4][0], BOB[4][0]), (ANN[4][0], BOB[4][1])])

    def test_beside_python(self):
        for one in small_houses(40, 29):
            settings = [place[4] for place in one[2] if place[0] == 'phone']
            self.assert_same(list(books_of(one)), sorted(itertools.product(*settings)))

    def test_one_by_one(self):
        settings = [((), '', busy, unheard, '') for busy in 'abcdef' for unheard in 'abcdef']
        one = house(*[phone(name, *settings) for name in 'abcdef'])
        books = books_of(one)
        self.assertIs(iter(books), books)
        self.assert_same(next(books), (settings[0],) * 6)
        self.assert_same(next(books), (*(settings[0],) * 5, settings[1]))

    def test_not_usable(self):
        for odd in (*ODD, HOUSE[:2], house(BOB, VOX)):
            # The errors come when the first result is asked for.
            books = books_of(odd)
            self.assert_unusable('house', first_of, books)
        self.assert_same(len(list(books_of(house=HOUSE))), 2)


class TestCalls(Strict):

    def test_no_phone(self):
        self.assert_same(list(calls_to(house(VOX), 'vox', 3)), [('vox', 3, (), ())])

    def test_one_phone(self):
        one = house(TWO, VOX)
        self.assert_same(
            list(calls_to(one, 'vox', 23)),
            [('vox', 23, (setting,), (word,)) for setting in (OFF, BUSY) for word in ORDER])

    def test_two_phones(self):
        calls = list(calls_to(HOUSE, 'desk', 0))
        wanted = [
            ('desk', 0, (ANN[4][0], setting), (first, second))
            for setting in BOB[4] for first in ORDER for second in ORDER]
        self.assert_same(calls, wanted)

    def test_beside_the_oracle(self):
        for one in small_houses(60, 290, most=800):
            for hour in (0, 23):
                calls = [call for place in one[2] for call in calls_to(one, place[1], hour)]
                self.assertEqual(sorted(calls), sorted(all_calls(one, (hour,))))
            name = one[2][0][1]
            calls = list(calls_to(one, name, 5))
            self.assertEqual(calls, sorted(calls))
            self.assertEqual(len(calls), many_calls(one))
            for call in calls[:20]:
                self.assertTrue(is_call(one, call))

    def test_one_by_one(self):
        settings = [((), '', busy, unheard, '') for busy in 'abcdef' for unheard in 'abcdef']
        one = house(*[phone(name, *settings) for name in 'abcdef'])
        calls = calls_to(one, 'b', 1)
        self.assertIs(iter(calls), calls)
        self.assert_same(next(calls), ('b', 1, (settings[0],) * 6, ('answers',) * 6))
        self.assert_same(next(calls), ('b', 1, (settings[0],) * 6, (*('answers',) * 5, 'busy')))

    def test_not_usable(self):
        for odd in (*ODD, HOUSE[:2]):
            for other in ('ann', None):
                calls = calls_to(odd, other, 24)
                self.assert_unusable('house', first_of, calls)
        for odd in (*ODD, ANN, HOUSE, 0):
            for hour in (0, None):
                self.assert_unusable('called', first_of, calls_to(HOUSE, odd, hour))
        for odd in (*ODD, 'ann', (0,)):
            self.assert_unusable('hour', first_of, calls_to(HOUSE, 'ann', odd))
        self.assert_same(len(list(calls_to(hour=9, called='ann', house=HOUSE))), 32)


if __name__ == '__main__':
    unittest.main()
