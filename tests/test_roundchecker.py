"""Points 35, 37 and 38: the checkers of falling numbers and of papers of rounds."""

import unittest

from ledcalls.houseparts import leads_of
from ledcalls.numbers import falling_numbers
from ledcalls.roundchecker import lets_numbers, lets_round
from oracle import falling, some_houses, told_houses
from samples import ANN, BOB, CALL, HOUSE, ODD, VOX, Strict, group, house, phone

FALLING = (('desk', 1), ('vox', 0))
TABLES = (FALLING,) * 24
# None of these is a pair of a name of the document's house and a number.
NO_PAIRS = (
    *ODD, ('desk',), ('desk', -1), ('desk', True), ('desk', None), ('desk', '1'), ('desk', (1,)), ('nobody', 1), ('', 1), (1, 'desk'),
    ('desk', 1, 2), ['desk', 1], (['desk'], 1), (('desk',), 1), (None, 1), (True, 1), ('Desk', 1), 'desk', 1, HOUSE, ANN)


class TestNumbers(Strict):

    def test_of_the_document(self):
        self.assert_same(lets_numbers(HOUSE, 'desk', 9, (('desk', 7), ('vox', 3))), 7)
        self.assert_paper(
            'lead', ('desk', 'after', 'vox'), lets_numbers, HOUSE, 'desk', 9, (('desk', 3), ('vox', 3)))

    def test_the_numbers_need_not_be_the_least(self):
        self.assert_same(lets_numbers(HOUSE, 'vox', 0, (('vox', 0),)), 0)
        self.assert_same(lets_numbers(HOUSE, 'vox', 0, (('vox', 10 ** 59),)), 10 ** 59)
        self.assert_same(lets_numbers(HOUSE, 'desk', 0, (('desk', 10 ** 59 + 1), ('vox', 10 ** 59))), 10 ** 59 + 1)
        self.assert_same(lets_numbers(thing=FALLING, hour=0, called='desk', house=HOUSE), 1)

    def test_more_names_may_be_there(self):
        one = house(phone('a', ((), '', 'b', '', '')), phone('b'), phone('c', ((), '', 'a', '', '')), VOX)
        self.assert_same(lets_numbers(one, 'b', 0, (('b', 0),)), 0)
        self.assert_same(lets_numbers(one, 'b', 0, (('b', 0), ('vox', 9))), 0)
        self.assert_same(lets_numbers(one, 'a', 0, (('a', 2), ('b', 0), ('c', 5), ('vox', 9))), 2)
        # A lead of a name that is there counts, even if it cannot be come to.
        self.assert_paper('lead', ('c', 'busy', 'a'), lets_numbers, one, 'b', 0, (('b', 0), ('c', 5)))
        self.assert_paper('lead', ('c', 'busy', 'a'), lets_numbers, one, 'a', 0, (('a', 2), ('b', 0), ('c', 2)))

    def test_shape(self):
        for odd in (*ODD, list(FALLING), [], 'desk', 0, None):
            if not isinstance(odd, tuple):
                self.assert_paper('shape', -1, lets_numbers, HOUSE, 'desk', 9, odd)

    def test_pair(self):
        for odd in NO_PAIRS:
            with self.subTest(odd=odd):
                self.assert_paper('pair', 0, lets_numbers, HOUSE, 'desk', 9, (odd,))
                self.assert_paper('pair', 1, lets_numbers, HOUSE, 'desk', 9, (('desk', 1), odd))
                self.assert_paper('pair', 1, lets_numbers, HOUSE, 'desk', 9, (('desk', 1), odd, odd))
                self.assert_paper('pair', 2, lets_numbers, HOUSE, 'desk', 9, (*FALLING, odd))
        self.assert_paper('pair', 1, lets_numbers, HOUSE, 'desk', 9, FALLING[::-1])
        self.assert_paper('pair', 1, lets_numbers, HOUSE, 'desk', 9, (('desk', 1), ('desk', 1)))
        self.assert_paper('pair', 1, lets_numbers, HOUSE, 'desk', 9, (('desk', 1), ('desk', 2), ('vox', 0)))
        self.assert_paper('pair', 2, lets_numbers, HOUSE, 'desk', 9, (('bob', 5), ('desk', 1), ('ann', 6)))

    def test_called(self):
        for thing in ((), (('vox', 0),), (('bob', 1), ('vox', 0)), (('ann', 0),)):
            self.assert_paper('called', -1, lets_numbers, HOUSE, 'desk', 9, thing)

    def test_lead(self):
        one = house(phone('a', ((3,), 'c', '', '', ''), ((5,), 'b', '', '', 'b')), phone('b', ((), '', '', 'c', '')), phone('c'))
        good = (('a', 2), ('b', 1), ('c', 0))
        self.assert_same([lets_numbers(one, 'a', hour, good) for hour in (3, 5, 7)], [2, 2, 2])
        worse = (('a', 1), ('b', 1), ('c', 1))
        self.assert_paper('lead', ('a', 'hours', 'c'), lets_numbers, one, 'a', 3, worse)
        self.assert_paper('lead', ('a', 'hours', 'b'), lets_numbers, one, 'a', 5, worse)
        self.assert_paper('lead', ('a', 'off', 'b'), lets_numbers, one, 'a', 7, worse)
        self.assert_paper('lead', ('b', 'unheard', 'c'), lets_numbers, one, 'a', 7, (('a', 2), ('b', 1), ('c', 1)))
        self.assert_paper('lead', ('b', 'unheard', 'c'), lets_numbers, one, 'a', 7, (('a', 2), ('b', 1)))
        self.assert_paper('lead', ('a', 'off', 'b'), lets_numbers, one, 'a', 7, (('a', 2),))
        self.assert_paper('lead', ('ann', 'busy', 'bob'), lets_numbers, HOUSE, 'ann', 9, (('ann', 1), ('bob', 1), ('desk', 1)))
        self.assert_paper('lead', ('ann', 'unheard', 'desk'), lets_numbers, HOUSE, 'ann', 9, (('ann', 1), ('bob', 0)))
        self.assert_paper(
            'lead', ('bob', 'unheard', 'ann'), lets_numbers, HOUSE, 'ann', 9, (('ann', 2), ('bob', 1), ('desk', 1), ('vox', 0)))

    def test_two_at_once(self):
        self.assert_paper('pair', 0, lets_numbers, HOUSE, 'desk', 9, (('vox', -1), ('desk', 0)))
        self.assert_paper('pair', 1, lets_numbers, HOUSE, 'ann', 9, (('desk', 0), ('bob', 0)))
        self.assert_paper('called', -1, lets_numbers, HOUSE, 'ann', 9, (('desk', 0), ('vox', 0)))
        self.assert_paper('pair', 1, lets_numbers, HOUSE, 'desk', 9, (('desk', 0), ('vox', True)))

    def test_beside_the_falling_numbers(self):
        for one in some_houses(120, 37):
            for place in one[2]:
                for hour in (0, 4):
                    wanted = falling(one, hour, place[1])
                    if wanted is None:
                        # No numbers fall along a ring.
                        self.assert_same(falling_numbers(one, place[1], hour), None)
                        continue
                    least = dict(wanted)[place[1]]
                    self.assert_same(lets_numbers(one, place[1], hour, wanted), least)
                    names = [lead for lead in leads_of(one, hour) if lead[0] in dict(wanted)]
                    for k, (name, number) in enumerate(wanted):
                        if number:
                            late = (*wanted[:k], (name, number - 1), *wanted[k + 1:])
                            first = [lead for lead in names if lead[0] == name and dict(wanted)[lead[2]] == number - 1][0]
                            self.assert_paper('lead', first, lets_numbers, one, place[1], hour, late)

    def test_not_usable(self):
        for odd in (*ODD, HOUSE[:2], house(BOB, VOX)):
            self.assert_unusable('house', lets_numbers, odd, 'desk', 9, FALLING)
            self.assert_unusable('house', lets_numbers, odd, None, None, None)
        for odd in (*ODD, ANN, HOUSE, 0):
            self.assert_unusable('called', lets_numbers, HOUSE, odd, 9, FALLING)
            self.assert_unusable('called', lets_numbers, HOUSE, odd, 24, None)
        for odd in (*ODD, 'ann', (9,)):
            self.assert_unusable('hour', lets_numbers, HOUSE, 'desk', odd, FALLING)
            self.assert_unusable('hour', lets_numbers, HOUSE, 'desk', odd, None)


class TestRound(Strict):

    def test_call(self):
        self.assert_same(lets_round(HOUSE, 'ann', ('call', CALL)), True)
        self.assert_same(lets_round(thing=('call', ('bob', *CALL[1:])), called='bob', house=HOUSE), True)
        for name in ('bob', 'desk', 'vox'):
            self.assert_paper('call', -1, lets_round, HOUSE, name, ('call', CALL))
        odd = (*ODD, HOUSE, CALL[:3], list(CALL), ('call', CALL), (*CALL[:3], ('busy', 'Off')), ('ann', True, *CALL[2:]))
        for thing in odd:
            self.assert_paper('call', -1, lets_round, HOUSE, 'ann', ('call', thing))

    def test_end(self):
        self.assert_paper('end', -1, lets_round, HOUSE, 'ann', ('call', (*CALL[:3], ('busy', 'busy'))))
        self.assert_paper('end', -1, lets_round, HOUSE, 'ann', ('call', (*CALL[:3], ('answers', 'unheard'))))
        self.assert_paper('end', -1, lets_round, HOUSE, 'vox', ('call', ('vox', *CALL[1:])))

    def test_numbers(self):
        self.assert_same(lets_round(HOUSE, 'desk', ('numbers', TABLES)), False)
        self.assert_same(lets_round(HOUSE, 'vox', ('numbers', TABLES)), False)
        mixed = ((('desk', 9), ('vox', 3)), *TABLES[1:])
        self.assert_same(lets_round(HOUSE, 'desk', ('numbers', mixed)), False)

    def test_hour(self):
        odd = (*ODD, FALLING[::-1], list(FALLING), FALLING[:1], FALLING[1:], (('desk', 0), ('vox', 0)), (('desk', True), ('vox', 0)))
        for h in (0, 1, 9, 23):
            for thing in odd:
                self.assert_paper(
                    'hour', h, lets_round, HOUSE, 'desk', ('numbers', (*TABLES[:h], thing, *TABLES[h + 1:])))
        self.assert_paper('hour', 3, lets_round, HOUSE, 'desk', ('numbers', (*TABLES[:3], None, (), *TABLES[5:])))
        self.assert_paper('hour', 0, lets_round, HOUSE, 'ann', ('numbers', TABLES))
        one = house(phone('a', ((5,), 'a', '', '', '')))
        self.assert_paper('hour', 5, lets_round, one, 'a', ('numbers', ((('a', 0),),) * 24))

    def test_shape(self):
        odd = (
            *ODD, HOUSE, CALL, ('call',), ('numbers',), ('call', CALL, CALL), ['call', CALL], ['numbers', TABLES], ('calls', CALL),
            ('', CALL), (None, CALL), (True, TABLES), (('call',), CALL), ('Call', CALL), ('numbers', TABLES, TABLES),
            ('numbers', list(TABLES)), ('numbers', TABLES[:23]), ('numbers', (*TABLES, FALLING)), ('numbers', ()), ('numbers', None),
            ('numbers', FALLING), ('numbers', 'a' * 24), (CALL, 'call'), TABLES)
        for thing in odd:
            with self.subTest(thing=thing):
                self.assert_paper('shape', -1, lets_round, HOUSE, 'desk', thing)

    def test_just_one_form_is_accepted(self):
        for one, told in told_houses(25, 38):
            for name, rows in told.items():
                tables = tuple(falling_numbers(one, name, hour) for hour in range(24))
                rounds = [call for call, row in rows if row['course'][1][0] == 'round']
                for call, row in rows[::7]:
                    if row['course'][1][0] == 'round':
                        self.assert_same(lets_round(one, name, ('call', call)), True)
                    else:
                        self.assert_paper('end', -1, lets_round, one, name, ('call', call))
                if rounds:
                    first = [hour for hour in range(24) if tables[hour] is None][0]
                    self.assert_paper('hour', first, lets_round, one, name, ('numbers', tables))
                else:
                    self.assert_same(lets_round(one, name, ('numbers', tables)), False)

    def test_not_usable(self):
        for odd in (*ODD, HOUSE[:2], house(BOB, VOX), group('g', 'a')):
            self.assert_unusable('house', lets_round, odd, 'ann', ('call', CALL))
            self.assert_unusable('house', lets_round, odd, None, None)
        for odd in (*ODD, ANN, HOUSE, 0):
            self.assert_unusable('called', lets_round, HOUSE, odd, ('call', CALL))
            self.assert_unusable('called', lets_round, HOUSE, odd, None)


if __name__ == '__main__':
    unittest.main()
