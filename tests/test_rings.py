"""Points 8, 9 (L1), 35 and 39: rings of leads, and whether calls go round."""

import unittest

from ledcalls.houseparts import leads_of
from ledcalls.rings import can_round, rings_of
from oracle import all_calls, rings, small_houses, some_houses, tell
from samples import ANN, BOB, CALL, HOUSE, ODD, VOX, Strict, group, house, phone

BUSY_A = ((), '', 'a', '', '')
# None of these is a set of hours.
NO_HOURS = (
    True, False, 0, 9, -1, 24, '', '0', [], [0], [0, 1], (24,), (-1,), (True,), (0, True), (1, 0), (0, 0), (1, 1), ('0',),
    ('',), ((0,),), (None,), (0, None), ((),), HOUSE, CALL, 'ann')


class TestRings(Strict):

    def test_of_the_document(self):
        self.assert_same(rings_of(HOUSE, 9), ((('ann', 'busy', 'bob'), ('bob', 'unheard', 'ann')),))
        self.assert_same(rings_of(HOUSE, 0), rings_of(HOUSE, 9))

    def test_none(self):
        self.assert_same(rings_of(house(VOX), 0), ())
        self.assert_same(rings_of(house(phone('a', ((), '', 'b', 'b', '')), phone('b')), 5), ())

    def test_of_one_place(self):
        self.assert_same(rings_of(house(phone('a', BUSY_A)), 3), ((('a', 'busy', 'a'),),))
        self.assert_same(rings_of(house(phone('a', ((2,), 'a', '', '', ''))), 2), ((('a', 'hours', 'a'),),))
        self.assert_same(rings_of(house(phone('a', ((2,), 'a', '', '', ''))), 3), ())
        self.assert_same(rings_of(house(group('g', 'a', after='g'), phone('a')), 0), ((('g', 'after', 'g'),),))

    def test_several_leads_between_places(self):
        one = house(phone('a', ((), '', 'b', '', 'b')), phone('b', ((), '', '', 'a', 'a'), ((4,), 'a', '', '', 'a')))
        self.assert_same(rings_of(one, 5), (
            (('a', 'busy', 'b'), ('b', 'off', 'a')), (('a', 'busy', 'b'), ('b', 'unheard', 'a')),
            (('a', 'off', 'b'), ('b', 'off', 'a')), (('a', 'off', 'b'), ('b', 'unheard', 'a'))))
        self.assert_same(len(rings_of(one, 4)), 6)
        self.assert_same(rings_of(one, 4)[0], (('a', 'busy', 'b'), ('b', 'hours', 'a')))

    def test_it_begins_with_the_lead_of_its_least_name(self):
        one = house(
            phone('c', ((), '', 'b', '', '')), phone('b', ((), '', 'd', '', 'b')), phone('d', ((), '', 'c', '', 'a')), phone('a'))
        self.assert_same(rings_of(one, 0), (
            (('b', 'busy', 'd'), ('d', 'busy', 'c'), ('c', 'busy', 'b')), (('b', 'off', 'b'),)))

    def test_beside_the_oracle(self):
        many = 0
        for one in some_houses(60, 35):
            for hour in (0, 2, 4):
                found = rings_of(one, hour)
                self.assert_same(found, rings(one, hour))
                many += len(found)
                for ring in found:
                    self.assertTrue(all(lead in leads_of(one, hour) for lead in ring))
        self.assertGreater(many, 100)

    def test_not_usable(self):
        for odd in (*ODD, HOUSE[:2], house(BOB, VOX)):
            for hour in (9, None):
                self.assert_unusable('house', rings_of, odd, hour)
        self.assert_each_unusable('hour', (*ODD, 'ann', (9,)), lambda thing: rings_of(HOUSE, thing))
        self.assert_same(len(rings_of(hour=9, house=HOUSE)), 1)


class TestRound(Strict):

    def test_of_the_document(self):
        self.assert_same(
            [can_round(HOUSE, 'ann'), can_round(HOUSE, 'desk'), can_round(HOUSE, 'ann', hours=())], [True, False, False])
        self.assert_same([can_round(HOUSE, 'bob'), can_round(HOUSE, 'vox')], [True, False])

    def test_hours(self):
        one = house(phone('a', ((3, 5), 'b', '', '', '')), phone('b', ((5, 7), 'a', '', '', '')), phone('c', ((3,), 'b', '', '', '')))
        for hour in range(24):
            self.assert_same([can_round(one, name, hours=(hour,)) for name in 'abc'], [hour == 5, hour == 5, False])
        self.assert_same(can_round(one, 'a'), True)
        self.assert_same(can_round(one, 'a', hours=None), True)
        self.assert_same(can_round(one, 'a', hours=(0, 3, 5, 23)), True)
        self.assert_same(can_round(one, 'a', hours=tuple(range(5))), False)
        self.assert_same(can_round(one, 'c'), False)
        late = house(phone('a', ((23,), 'a', '', '', '')))
        self.assert_same([can_round(late, 'a'), can_round(late, 'a', hours=(22,))], [True, False])

    def test_a_ring_that_cannot_be_come_to(self):
        one = house(phone('a', ((), '', 'b', '', '')), phone('b'), phone('c', ((), '', 'c', '', 'a')))
        self.assert_same([can_round(one, name) for name in 'abc'], [False, False, True])

    def test_through_groups(self):
        one = house(group('g', 'a', 'b', after='a'), phone('a', ((), '', 'b', '', '')), phone('b', ((), '', '', '', 'g')))
        self.assert_same([can_round(one, name) for name in ('g', 'a', 'b')], [True] * 3)

    def test_beside_all_calls(self):
        seen = {True: 0, False: 0}
        for one in small_houses(70, 350):
            for hour in range(5):
                rounds = {place[1]: False for place in one[2]}
                for call in all_calls(one, (hour,)):
                    if not rounds[call[0]] and tell(one, call)['course'][1][0] == 'round':
                        rounds[call[0]] = True
                for name, wanted in rounds.items():
                    self.assert_same((one, name, hour, can_round(one, name, hours=(hour,))), (one, name, hour, wanted))
                    seen[wanted] += 1
            for place in one[2]:
                # The settings of these houses have no hour behind 3.
                each = [can_round(one, place[1], hours=(hour,)) for hour in range(5)]
                self.assert_same(can_round(one, place[1]), any(each))
        self.assertGreater(min(seen.values()), 100)

    def test_not_usable(self):
        for odd in (*ODD, HOUSE[:2], house(BOB, VOX)):
            self.assert_unusable('house', can_round, odd, 'ann')
            self.assert_unusable('house', can_round, odd, None, hours=False)
        for odd in (*ODD, ANN, HOUSE, 0):
            self.assert_unusable('called', can_round, HOUSE, odd)
            self.assert_unusable('called', can_round, HOUSE, odd, hours=(24,))
        self.assert_each_unusable('hours', NO_HOURS, lambda thing: can_round(HOUSE, 'ann', hours=thing))
        self.assert_same(can_round(hours=(9,), called='ann', house=HOUSE), True)


if __name__ == '__main__':
    unittest.main()
