"""Points 46 and 53: the checker of papers that show that a taking is one of the least."""

import unittest

from ledcalls.takingchecker import lets_taking
from ledcalls.takingpapers import taking_paper
from oracle import all_told, falling, leaves_all, least_sets, pairs_in, subsets, tiny_houses
from samples import ANN, BOB, CALL, HOUSE, ODD, VOX, Strict, house, phone

EVE = ('phone', 'eve', 0, 'kept', (((), '', 'sam', '', ''),))
SAM = ('phone', 'sam', 0, 'kept', (((), '', '', '', ''), ((), '', '', 'eve', '')))
PAIR = (('kept', 'kept'), (), (EVE, SAM))
TAKEN = (('sam', SAM[4][1]),)
TABLE = (('eve', 1), ('sam', 0))
TABLES = (TABLE,) * 24
ROUND = ('eve', 5, (EVE[4][0], SAM[4][1]), ('busy', 'unheard'))
PAPER = (TAKEN, TABLES, (ROUND,))
PLAIN = ((), '', '', '', '')
# Three rings with a by itself, and by b, and in the hour 7 by c: each needs its setting.
A, B, C = (
    phone('a', *sorted([PLAIN, ((), '', 'a', '', ''), ((), '', 'b', '', '')])), phone('b', ((), '', '', 'a', '')),
    phone('c', PLAIN, ((7,), 'c', '', '', '')))
RINGS = house(C, VOX, B, A)
THREE = tuple(sorted([('a', ((), '', 'a', '', '')), ('a', ((), '', 'b', '', '')), ('c', C[4][1])]))
NUMBERS = (('a', 0), ('b', 1), ('c', 0), ('vox', 0))
CALLS = (
    ('a', 0, (PLAIN, ((), '', '', 'a', ''), ((), '', 'a', '', '')), ('off', 'off', 'busy')),
    ('b', 23, (PLAIN, ((), '', '', 'a', ''), ((), '', 'b', '', '')), ('off', 'unheard', 'busy')),
    ('c', 7, (C[4][1], ((), '', '', 'a', ''), PLAIN), ('answers', 'off', 'off')))
LONG = (THREE, (NUMBERS,) * 24, CALLS)
# None of these is a pair of a name of the document's pair of phones and a number.
NO_PAIRS = (
    *ODD, ('eve',), ('eve', -1), ('eve', True), ('eve', False), ('eve', None), ('eve', '1'), ('eve', (1,)), ('nobody', 1), ('', 1), (1, 'eve'),
    ('eve', 1, 2), ['eve', 1], (['eve'], 1), (('eve',), 1), (None, 1), ('Eve', 1), 'eve', 1, HOUSE, EVE)


def changed(things, k, thing):
    """The tuple with thing at this index."""
    return (*things[:k], thing, *things[k + 1:])


def without(one, taken):
    """The house without these settings."""
    return (*one[:2], tuple(
        (*place[:4], tuple(setting for setting in place[4] if (place[1], setting) not in taken)) if place[0] == 'phone' else place
        for place in one[2]))


def tables_of(one):
    """Tables of numbers of all places that fall as far as there are such, and the hours in which there are none."""
    names = sorted(place[1] for place in one[2])
    found = [[falling(one, hour, name) for name in names] for hour in range(5)]
    tables = [
        tuple((name, 0 if None in pairs else dict(row)[name]) for name, row in zip(names, pairs)) for pairs in found]
    # No setting has an hour behind 3.
    odd_hours = [hour for hour in range(5) if None in found[hour]]
    return (*tables, *tables[4:] * 19), odd_hours


def calls_for(one, taken, rounds):
    """For each pair a call that goes round without the others, None if there is none."""
    phones = [place[1] for place in one[2] if place[0] == 'phone']
    fit = [[call for call in rounds if not set(zip(phones, call[2])) & set(taken) - {pair}] for pair in taken]
    return tuple(found[0] if found else None for found in fit)


class TestTaking(Strict):

    def test_of_the_document(self):
        self.assert_same(lets_taking(PAIR, taking_paper(PAIR, TAKEN)), 1)
        self.assert_same(lets_taking(thing=PAPER, house=PAIR), 1)
        self.assert_paper('numbers', 0, lets_taking, PAIR, ((), TABLES, ()))

    def test_how_many_are_taken(self):
        self.assert_same(lets_taking(RINGS, LONG), 3)
        self.assert_same(lets_taking(house(VOX), ((), ((('vox', 0),),) * 24, ())), 0)
        self.assert_same(lets_taking(house(VOX), ((), ((('vox', 10 ** 59),),) * 24, ())), 0)

    def test_numbers_need_not_be_the_least(self):
        great = (('eve', 10 ** 59 + 1), ('sam', 10 ** 59))
        for k in range(24):
            self.assert_same(lets_taking(PAIR, (TAKEN, changed(TABLES, k, great), (ROUND,))), 1)

    def test_shape(self):
        triples = (((), (), ()), (('kept', 'kept'), (), ()))
        odd = (
            *(odd for odd in ODD if odd not in triples), (TAKEN, TABLES), (*PAPER, ()), list(PAPER), (list(TAKEN), TABLES, (ROUND,)), (TAKEN, list(TABLES), (ROUND,)),
            (TAKEN, TABLES, [ROUND]), (None, TABLES, (ROUND,)), (TAKEN, None, (ROUND,)), (TAKEN, TABLES, None), (TAKEN, TABLES, 'call'),
            ('taken', TABLES, (ROUND,)), (TAKEN, 24, (ROUND,)), ('', '', ''), 'abc')
        for thing in odd:
            with self.subTest(thing=thing):
                self.assert_paper('shape', -1, lets_taking, PAIR, thing)

    def test_taken(self):
        odd = (
            *(odd for odd in ODD if isinstance(odd, tuple) and odd != ()), (None,), TAKEN * 2, (('sam', SAM[4][0]), ('sam', SAM[4][1])),
            (('eve', EVE[4][0]),), (('sam', EVE[4][0]),), (['sam', SAM[4][1]],), TAKEN[0], (('sam', SAM[4]),), (('nobody', PLAIN),),
            (('sam', list(SAM[4][1])),), (('sam', SAM[4][1], 1),), (SAM[4][1],))
        for thing in odd:
            with self.subTest(thing=thing):
                self.assert_paper('taken', -1, lets_taking, PAIR, (thing, TABLES, (ROUND,)))
        self.assert_paper('taken', -1, lets_taking, RINGS, (THREE[::-1], *LONG[1:]))
        self.assert_paper('taken', -1, lets_taking, RINGS, (pairs_in(RINGS), *LONG[1:]))
        late = house(phone('a', PLAIN, ((0, 1), 'a', '', '', '')))
        self.assert_paper('taken', -1, lets_taking, late, ((('a', ((False, 1), 'a', '', '', '')),), TABLES, (ROUND,)))

    def test_tables(self):
        for tables in ((), TABLES[1:], (*TABLES, TABLE), TABLE, (None,) * 23, (None,) * 25):
            self.assert_paper('tables', -1, lets_taking, PAIR, (TAKEN, tables, (ROUND,)))

    def assert_numbers(self, table):
        for h in (0, 1, 9, 23):
            self.assert_paper('numbers', h, lets_taking, PAIR, (TAKEN, changed(TABLES, h, table), (ROUND,)))

    def test_numbers_that_are_no_set_of_a_pair_for_each_place(self):
        for odd in NO_PAIRS:
            with self.subTest(odd=odd):
                self.assert_numbers(odd)
                self.assert_numbers((odd, ('sam', 0)))
                self.assert_numbers((('eve', 1), odd))
                self.assert_numbers((*TABLE, odd))
        for table in (TABLE[::-1], TABLE[:1], TABLE[1:], list(TABLE), (*TABLE, ('sam', 0)), (TABLE[0], TABLE[0]), (('eve', 1), ('eve', 0)),
                      (('eve', 1), ('sam', False)), (('eve', True), ('sam', 0)), (('ann', 1), ('sam', 0)), {'eve': 1, 'sam': 0}):
            self.assert_numbers(table)

    def test_numbers_that_do_not_fall(self):
        for table in ((('eve', 0), ('sam', 0)), (('eve', 3), ('sam', 3)), (('eve', 3), ('sam', 4))):
            self.assert_numbers(table)
        # Without the settings that are taken the leads count; of a place that cannot be come to, too.
        self.assert_paper('numbers', 0, lets_taking, RINGS, (THREE[1:], *LONG[1:]))

    def test_numbers_of_each_hour(self):
        # In the hour 7 the phone c goes round with its other setting.
        self.assert_paper('numbers', 7, lets_taking, RINGS, (THREE[:2], LONG[1], CALLS[:2]))
        one = house(phone('a', ((3,), 'b', '', '', ''), ((5,), 'b', '', 'b', '')), phone('b'))
        low, high = (('a', 0), ('b', 0)), (('a', 1), ('b', 0))
        self.assert_paper('numbers', 0, lets_taking, one, ((), (low,) * 24, ()))
        self.assert_same(lets_taking(one, ((), (high,) * 24, ())), 0)
        self.assert_paper('numbers', 3, lets_taking, one, ((), changed((high,) * 24, 3, low), ()))
        # Without the second setting just the hour 3 has a lead.
        taken = (('a', one[2][0][4][1]),)
        tables = changed((low,) * 24, 3, high)
        self.assert_paper('calls', -1, lets_taking, one, (taken, tables, ()))
        self.assert_paper('call', 0, lets_taking, one, (taken, tables, (None,)))
        self.assert_paper('numbers', 3, lets_taking, one, (taken, (low,) * 24, ()))

    def test_calls(self):
        for calls in ((), (ROUND, ROUND), (None, None), (ROUND, None)):
            self.assert_paper('calls', -1, lets_taking, PAIR, (TAKEN, TABLES, calls))
        for calls in ((), CALLS[:2], (*CALLS, CALLS[0]), (None, None), (None,) * 4):
            self.assert_paper('calls', -1, lets_taking, RINGS, (*LONG[:2], calls))

    def test_call(self):
        settled = (('sam', 5, ROUND[2], ('busy', 'busy')), ('sam', 5, (EVE[4][0], SAM[4][0]), ('busy', 'unheard')))
        for thing in (*ODD, *settled, list(ROUND), ROUND[:3], ('call', ROUND), CALL, ('sam', True, *ROUND[2:]), (*ROUND[:3], ('busy',))):
            self.assert_paper('call', 0, lets_taking, PAIR, (TAKEN, TABLES, (thing,)))
            for k in range(3):
                self.assert_paper('call', k, lets_taking, RINGS, (*LONG[:2], changed(CALLS, k, thing)))

    def test_a_call_needs_the_very_element(self):
        # The call of another element is one of a house in which this other one is not taken.
        for k in range(3):
            for j in range(3):
                if j != k:
                    self.assert_paper('call', k, lets_taking, RINGS, (*LONG[:2], changed(CALLS, k, CALLS[j])))
        self.assert_paper('call', 0, lets_taking, RINGS, (*LONG[:2], CALLS[::-1]))
        # Its settings stand there even if the phone is not on the course.
        call = ('c', 7, (C[4][1], ((), '', '', 'a', ''), ((), '', 'a', '', '')), ('answers', 'off', 'off'))
        self.assert_paper('call', 2, lets_taking, RINGS, (*LONG[:2], changed(CALLS, 2, call)))

    def test_a_taking_that_is_not_least(self):
        # What need not be taken has no call: the ring is gone without it.
        one = house(EVE, SAM, phone('tom', PLAIN, ((), '', 'vox', '', '')), VOX)
        taken = (*TAKEN, ('tom', one[2][2][4][1]))
        table = (('eve', 1), ('sam', 0), ('tom', 0), ('vox', 0))
        call = ('eve', 5, (*ROUND[2], PLAIN), ('busy', 'unheard', 'off'))
        self.assert_same(lets_taking(one, (taken[:1], (changed(table, 2, ('tom', 1)),) * 24, (call,))), 1)
        for other in (call, None, ('eve', 5, (ROUND[2][0], SAM[4][0], taken[1][1]), ('busy', 'unheard', 'off'))):
            self.assert_paper('call', 1, lets_taking, one, (taken, (table,) * 24, (call, other)))

    def test_two_at_once(self):
        self.assert_paper('shape', -1, lets_taking, PAIR, ((None,), TABLES, [None]))
        self.assert_paper('taken', -1, lets_taking, PAIR, ((None,), (), ()))
        self.assert_paper('tables', -1, lets_taking, PAIR, (TAKEN, (None,) * 23, ()))
        self.assert_paper('numbers', 0, lets_taking, PAIR, (TAKEN, (None,) * 24, ()))
        self.assert_paper('numbers', 2, lets_taking, PAIR, (TAKEN, changed(changed(TABLES, 2, (('eve', 0), ('sam', 0))), 3, None), ()))
        self.assert_paper('numbers', 2, lets_taking, PAIR, (TAKEN, changed(changed(TABLES, 3, (('eve', 0), ('sam', 0))), 2, None), (None,)))
        self.assert_paper('calls', -1, lets_taking, RINGS, (*LONG[:2], (None,)))
        self.assert_paper('call', 0, lets_taking, RINGS, (*LONG[:2], (None,) * 3))
        self.assert_paper('call', 1, lets_taking, RINGS, (*LONG[:2], (CALLS[0], CALLS[0], None)))

    def test_papers_made_of_all_calls_of_tiny_houses(self):
        for one in tiny_houses(40, 530):
            told = all_told(one)
            least = least_sets(one, told, pairs_in(one), ('round',))
            rounds = [call for rows in told.values() for call, row in rows if row['course'][1][0] == 'round']
            for taken in [part for part in subsets(pairs_in(one)) if leaves_all(one, part)]:
                tables, odd_hours = tables_of(without(one, taken))
                calls = calls_for(one, taken, rounds)
                paper = (taken, tables, calls)
                if taken in least:
                    self.assert_same(lets_taking(one, paper), len(taken))
                elif odd_hours:
                    self.assert_paper('numbers', odd_hours[0], lets_taking, one, paper)
                else:
                    self.assert_paper('call', calls.index(None), lets_taking, one, paper)

    def test_not_usable(self):
        for odd in (*ODD, HOUSE[:2], house(BOB, VOX), house(ANN)):
            self.assert_unusable('house', lets_taking, odd, PAPER)
            self.assert_unusable('house', lets_taking, odd, None)


if __name__ == '__main__':
    unittest.main()
