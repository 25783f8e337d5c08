"""Points 9 (L1), 36 and 39: falling numbers."""

import random
import unittest

from ledcalls.houseparts import come_to
from ledcalls.numbers import falling_numbers, most_amid
from ledcalls.rings import can_round
from oracle import all_calls, falling, small_houses, some_houses, tell, visit
from samples import ANN, BOB, HOUSE, ODD, VOX, Strict, group, house, phone


class TestNumbers(Strict):

    def test_of_the_document(self):
        self.assert_same(falling_numbers(HOUSE, 'desk', 9), (('desk', 1), ('vox', 0)))
        self.assert_same(falling_numbers(HOUSE, 'ann', 9), None)
        self.assert_same([most_amid(HOUSE, 'desk', 9), most_amid(HOUSE, 'ann', 9)], [1, None])
        self.assert_same([falling_numbers(HOUSE, 'vox', 9), most_amid(HOUSE, 'vox', 9)], [(('vox', 0),), 0])

    def test_the_longest_way_counts(self):
        one = house(
            phone('z', ((), '', 'y', 'a', '')), phone('y', ((), '', 'x', '', 'a')), phone('x', ((), '', '', 'a', '')), phone('a'),
            phone('w', ((), '', 'z', '', '')))
        self.assert_same(falling_numbers(one, 'z', 0), (('a', 0), ('x', 1), ('y', 2), ('z', 3)))
        self.assert_same(falling_numbers(one, 'y', 0), (('a', 0), ('x', 1), ('y', 2)))
        self.assert_same([most_amid(one, name, 0) for name in 'wzyxa'], [4, 3, 2, 1, 0])

    def test_hours(self):
        one = house(phone('a', ((3,), 'b', '', 'vox', '')), phone('b', ((3,), 'a', '', '', ''), ((4,), 'vox', '', '', '')), VOX)
        self.assert_same(falling_numbers(one, 'a', 3), None)
        self.assert_same(falling_numbers(one, 'b', 4), (('b', 1), ('vox', 0)))
        self.assert_same(falling_numbers(one, 'a', 4), (('a', 1), ('vox', 0)))
        self.assert_same(falling_numbers(one, 'b', 5), (('b', 0),))
        self.assert_same([most_amid(one, 'a', 3), most_amid(one, 'a', 23)], [None, 1])

    def test_each_setting_counts(self):
        one = house(
            phone('a', ((), '', '', '', 'b'), ((), '', 'g', '', '')), group('g', 'a', after='c'), phone('b'),
            phone('c', ((), '', '', 'b', '')))
        self.assert_same(most_amid(one, 'a', 0), 3)
        self.assert_same(falling_numbers(one, 'g', 0), (('b', 0), ('c', 1), ('g', 2)))

    def test_a_ring_that_cannot_be_come_to(self):
        one = house(phone('a', ((), '', 'b', '', '')), phone('b'), phone('c', ((), '', 'c', '', 'a')))
        self.assert_same([falling_numbers(one, name, 7) for name in 'abc'], [(('a', 1), ('b', 0)), (('b', 0),), None])
        self.assert_same([most_amid(one, name, 7) for name in 'abc'], [1, 0, None])

    def test_beside_the_oracle(self):
        seen = {}
        for one in some_houses(200, 36):
            for hour in (0, 3, 4):
                for place in one[2]:
                    name = place[1]
                    wanted = falling(one, hour, name)
                    self.assert_same((one, name, falling_numbers(one, name, hour)), (one, name, wanted))
                    self.assert_same(most_amid(one, name, hour), None if wanted is None else dict(wanted)[name])
                    self.assert_same(can_round(one, name, hours=(hour,)), wanted is None)
                    if wanted:
                        self.assert_same(tuple(other for other, _ in wanted), come_to(one, name, hour))
                    seen[most_amid(one, name, hour)] = True
        self.assertTrue({None, 0, 1, 2, 3} <= set(seen), seen)

    def test_no_call_has_more_hops(self):
        for one in small_houses(40, 360):
            most = {}
            for call in all_calls(one, (1,)):
                hops = len(tell(one, call)['course'][0]) - 1
                most[call[0]] = max(most.get(call[0], 0), hops)
            for name, hops in most.items():
                if most_amid(one, name, 1) is not None:
                    self.assertGreaterEqual(most_amid(one, name, 1), hops)

    def test_hops_amid_which_all_changes(self):
        chance = random.Random(37)
        for one in small_houses(40, 361):
            calls = list(all_calls(one, (2,)))
            for place in one[2]:
                most = most_amid(one, place[1], 2)
                for _ in range(30 if most is not None else 0):
                    name, hops = place[1], 0
                    while name:
                        name, hops = visit(one, chance.choice(calls), name)[1], hops + 1
                    self.assertLessEqual(hops - 1, most)

    def test_not_usable(self):
        for function in (falling_numbers, most_amid):
            for odd in (*ODD, HOUSE[:2], house(BOB, VOX)):
                self.assert_unusable('house', function, odd, 'ann', 9)
                self.assert_unusable('house', function, odd, None, None)
            for odd in (*ODD, ANN, HOUSE, 0):
                self.assert_unusable('called', function, HOUSE, odd, 9)
                self.assert_unusable('called', function, HOUSE, odd, 24)
            self.assert_each_unusable('hour', (*ODD, 'ann', (9,)), lambda thing: function(HOUSE, 'ann', thing))
        self.assert_same(falling_numbers(hour=9, called='vox', house=HOUSE), (('vox', 0),))
        self.assert_same(most_amid(hour=9, called='vox', house=HOUSE), 0)


if __name__ == '__main__':
    unittest.main()
