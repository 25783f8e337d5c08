"""Points 46 and 50: the checker of papers that show that no limit is sure."""

import unittest

from ledcalls.limitchecker import lets_unsure
from oracle import told_houses
from samples import ANN, BOB, CALL, HOUSE, KEPT, ODD, VOX, Strict, house, phone

PLAIN = CALL[2]
GOOD = ('bob', 9, PLAIN, ('unheard', 'unheard'))
LOST = ('lost', 'lost')
LOST_ON_1 = ('kept', 'lost')
LOST_ON_0 = ('lost', 'kept')
# None of these is a call of the document's house.
NO_CALLS = (
    *ODD, HOUSE, CALL[:3], (*CALL, None), ('call', CALL), list(CALL), ('ann', True, *CALL[2:]), ('eve', *CALL[1:]), ('ann', 24, *CALL[2:]),
    (*CALL[:3], ('busy', 'Busy')), (*CALL[:2], (PLAIN[0], PLAIN[0]), CALL[3]), (*CALL[:2], PLAIN[:1], CALL[3]))


def past(name, target, side=0):
    """A phone that leads past at any hour."""
    return phone(name, (tuple(range(24)), target, '', '', ''), side=side)


def off(one, name, hour=0):
    """The call to a place in which each phone has its first setting and is off."""
    phones = [place for place in one[2] if place[0] == 'phone']
    return (name, hour, tuple(place[4][0] for place in phones), ('off',) * len(phones))


# Calls to a, b, c and d are good; those to f, g, h, and to k, m, go round.
CHAIN = (past('a', 'b'), past('b', 'c'), past('c', 'd'), past('d', 'e', 1), ('box', 'e', 1))
RINGS = (past('f', 'g'), past('g', 'h'), past('h', 'f', 1), past('k', 'm'), past('m', 'k', 1))


class TestUnsure(Strict):

    def paper(self, border, good, going):
        """A house of the chain and the rings, and a paper of the calls to these places."""
        one = house(*CHAIN, *RINGS, border=border)
        return one, ('unsure', off(one, good), off(one, going))

    def test_of_the_document(self):
        self.assert_same(lets_unsure(HOUSE, ('unsure', GOOD, CALL)), 3)
        self.assert_same(lets_unsure(thing=('unsure', GOOD, CALL), house=HOUSE), 3)
        self.assert_paper('round', -1, lets_unsure, HOUSE, ('unsure', ('desk', 9, PLAIN, ('off', 'off')), CALL))

    def test_the_greatest_count_and_not_how_many_hops(self):
        # From a the counts are 0, 1, 2, 0 if side 1 loses them, else 0, 1, 2, 3; on the first ring they go up to 2, or up
        # to 1 if both sides lose them.
        self.assert_same(lets_unsure(*self.paper(LOST_ON_1, 'a', 'f')), 3)
        self.assert_same(lets_unsure(*self.paper(LOST_ON_0, 'a', 'f')), 4)
        self.assert_same(lets_unsure(*self.paper(LOST, 'a', 'f')), 3)
        self.assert_same(lets_unsure(*self.paper(LOST, 'b', 'h')), 2)
        self.assert_same(lets_unsure(*self.paper(LOST_ON_1, 'b', 'm')), 2)

    def test_several_hops_at_one_count(self):
        # From c a call hops at 0 and at 0 again.
        one, (_, good, _) = self.paper(LOST, 'c', 'k')
        for name in 'km':
            self.assert_same(lets_unsure(one, ('unsure', good, off(one, name))), 1)
        self.assert_same(lets_unsure(one, ('unsure', off(one, 'd', 23), off(one, 'm', 7))), 1)
        for name in 'fgh':
            self.assert_paper('round', -1, lets_unsure, one, ('unsure', good, off(one, name)))

    def test_shape(self):
        odd = (
            *ODD, HOUSE, CALL, ('unsure', GOOD), ('unsure', GOOD, CALL, CALL), ['unsure', GOOD, CALL], ('sure', GOOD, CALL), ('', GOOD, CALL),
            (None, GOOD, CALL), (True, GOOD, CALL), (('unsure',), GOOD, CALL), (['unsure'], GOOD, CALL), ('Unsure', GOOD, CALL),
            (GOOD, CALL, 'unsure'), ('unsure', (GOOD, CALL)), 'unsure', ('call', GOOD, CALL), ('u', 'n', 's'))
        for thing in odd:
            with self.subTest(thing=thing):
                self.assert_paper('shape', -1, lets_unsure, HOUSE, thing)

    def test_good(self):
        not_good = [(*CALL[:3], ('busy', 'busy')), ('bob', 9, PLAIN, ('off', 'off')), CALL, ('bob', *CALL[1:])]
        # These do not hop.
        at_once = [('vox', *CALL[1:]), ('ann', 9, PLAIN, ('answers', 'off')), ('desk', 9, PLAIN, ('off', 'answers'))]
        for thing in (*NO_CALLS, *not_good, *at_once):
            with self.subTest(thing=thing):
                self.assert_paper('good', -1, lets_unsure, HOUSE, ('unsure', thing, CALL))

    def test_round(self):
        not_round = [GOOD, (*CALL[:3], ('busy', 'busy')), ('vox', *CALL[1:]), (*CALL[:3], ('answers', 'unheard'))]
        for thing in (*NO_CALLS, *not_round):
            with self.subTest(thing=thing):
                self.assert_paper('round', -1, lets_unsure, HOUSE, ('unsure', GOOD, thing))

    def test_round_is_cut(self):
        for border, good, going in (
                (KEPT, 'a', 'f'), (KEPT, 'a', 'k'), (LOST_ON_1, 'b', 'f'), (LOST_ON_0, 'c', 'f'), (LOST, 'c', 'f'), (LOST_ON_1, 'c', 'k')):
            self.assert_paper('round', -1, lets_unsure, *self.paper(border, good, going))

    def test_two_at_once(self):
        for odd in (None, [], GOOD[:3], ('desk', *CALL[1:])):
            self.assert_paper('shape', -1, lets_unsure, HOUSE, ('sure', odd, odd))
            self.assert_paper('shape', -1, lets_unsure, HOUSE, ('unsure', odd, odd, odd))
            self.assert_paper('shape', -1, lets_unsure, HOUSE, ['unsure', odd, odd])
        for odd in (None, [], GOOD[:3], GOOD):
            self.assert_paper('good', -1, lets_unsure, HOUSE, ('unsure', CALL, odd))
            self.assert_paper('good', -1, lets_unsure, HOUSE, ('unsure', None, odd))
            self.assert_paper('good', -1, lets_unsure, HOUSE, ('unsure', ('vox', *CALL[1:]), odd))

    def test_beside_all_calls(self):
        seen = {}
        for one, told in told_houses(70, 500):
            rows = [row for row_list in told.values() for row in row_list]
            goods = [(call, row) for call, row in rows if row['good'] and row['counts']][::5]
            rounds = [(call, row) for call, row in rows if row['course'][1][0] == 'round'][::5]
            for call, row in goods[:12]:
                limit = max(row['counts']) + 1
                for going, other in rounds[-12:]:
                    cut = max(other['ever']) >= limit
                    paper = ('unsure', call, going)
                    seen[(limit, cut)] = True
                    if cut:
                        self.assert_paper('round', -1, lets_unsure, one, paper)
                    else:
                        self.assert_same(lets_unsure(one, paper), limit)
        self.assertLessEqual({(1, True), (1, False), (2, True), (2, False)}, set(seen))

    def test_a_call_of_another_house_is_none(self):
        other = house(ANN, phone('bob', ((), '', '', 'ann', 'ann')), *HOUSE[2][2:], border=HOUSE[0])
        book = tuple(place[4][0] for place in other[2][:2])
        for paper in (('unsure', (*GOOD[:2], book, GOOD[3]), CALL), ('unsure', GOOD, (*CALL[:2], book, CALL[3]))):
            self.assert_paper('good' if paper[2] == CALL else 'round', -1, lets_unsure, HOUSE, paper)

    def test_not_usable(self):
        for odd in (*ODD, HOUSE[:2], house(BOB, VOX)):
            self.assert_unusable('house', lets_unsure, odd, ('unsure', GOOD, CALL))
            self.assert_unusable('house', lets_unsure, odd, None)


if __name__ == '__main__':
    unittest.main()
