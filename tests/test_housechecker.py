"""Point 12: the checker of houses, each entry of its list with its place, and two at once."""

import unittest

from ledcalls.housechecker import is_house, lets_house
from samples import (
    ANN, BOB, DESK, HOUSE, KEPT, NO_STRINGS, ODD, STRINGS, VOX, Strict, group, house, nested, phone)


class TestHouses(Strict):

    def assert_house(self, thing):
        self.assert_same(lets_house(thing), len(thing[2]))
        self.assert_same(is_house(thing), True)

    def assert_none(self, word, at, thing):
        with self.subTest(thing=thing):
            self.assert_paper(word, at, lets_house, thing)
            self.assert_same(is_house(thing), False)

    def test_houses(self):
        self.assert_house(HOUSE)
        self.assert_house(house(VOX))
        self.assert_house(house(phone('a')))
        self.assert_house(house(group('g', 'a'), phone('a', ((), '', 'g', 'a', 'g'))))
        self.assert_house(house(group('g', 'h', after='g'), group('h', 'a', after='g'), phone('a')))
        self.assert_house(house(VOX, phone('a'), bars=(('a', 'a'), ('a', 'vox'), ('vox', 'a'))))
        self.assert_same(lets_house(thing=HOUSE), 4)
        self.assert_same(is_house(thing=HOUSE), True)

    def test_sixteen_places_with_groups_within_groups(self):
        groups = [group(f'g{"abcdefghijklmn"[k]}', *[f'g{"abcdefghijklmn"[j]}' for j in range(k + 1, 14)], 'p')
                  for k in range(14)]
        self.assert_house(house(*groups, phone('p'), VOX))
        self.assert_house(house(phone('p'), VOX, *groups[::-1]))

    def test_long_chains_of_groups(self):
        names = ['g' + ''.join(chr(97 + k // 26 ** j % 26) for j in range(3)) for k in range(600)]
        groups = [group(name, later) for name, later in zip(names, [*names[1:], 'p'])]
        self.assert_house(house(*groups, phone('p')))
        self.assert_none('within', 300, house(*groups[:-1], group(names[-1], 'p', names[300]), phone('p')))

    def test_odd_values(self):
        for thing in (*ODD, *nested(HOUSE, 3), (HOUSE,), HOUSE + (None,), HOUSE[:2], HOUSE[1:], HOUSE[::-1]):
            if thing != (('kept', 'kept'), (), ()):
                self.assert_none('shape', -1, thing)

    def test_shape(self):
        for thing in (
                (['kept', 'kept'], (), (VOX,)), (('kept',), (), (VOX,)), (('kept',) * 3, (), (VOX,)),
                (KEPT, [], (VOX,)), (KEPT, None, (VOX,)), (KEPT, '', (VOX,)), (KEPT, (), [VOX]),
                (KEPT, (), ()), (KEPT, (), 'vox'), [KEPT, (), (VOX,)], (KEPT, (), {0: VOX}),
                (None, (), (VOX,)), ('ab', (), (VOX,))):
            self.assert_none('shape', -1, thing)

    def test_border(self):
        for border in ((1, 2), ('kept', 'own'), ('kept', True), ((), ()), ([], []), ('', '')):
            self.assert_none('border', -1, (border, (), (VOX,)))
            self.assert_none('border', -1, (border, (None,), (None,)))

    def test_places(self):
        for odd in ODD:
            self.assert_none('place', 0, house(odd))
            self.assert_none('place', 2, house(VOX, DESK, odd, odd, VOX))
            self.assert_none('place', 1, house(BOB, odd, DESK, bars=(1,)))
        self.assert_none('place', 0, house(('box', 'vox', True)))
        self.assert_none('place', 1, house(VOX, phone('a', ((True,), 'vox', '', '', ''))))

    def test_twice(self):
        self.assert_none('twice', 1, house(VOX, phone('vox')))
        self.assert_none('twice', 2, house(ANN, BOB, BOB, None))
        self.assert_none('twice', 3, house(ANN, BOB, VOX, ANN, BOB))
        self.assert_none('place', 1, house(VOX, None, VOX))
        self.assert_none('twice', 1, house(VOX, VOX, None))

    def test_settings(self):
        self.assert_none('setting', (0, 0), house(BOB, VOX))
        self.assert_none('setting', (1, 0), house(VOX, phone('a', ((), '', 'b', '', ''), ((), '', 'c', '', ''))))
        empty = ((), '', '', '', '')
        for k in range(1, 5):
            hours = (5,) if k == 1 else ()
            odd = (hours, *['nobody' if j == k else '' for j in range(1, 5)])
            self.assert_none('setting', (1, 1), house(VOX, phone('a', empty, odd), group('g', 'nobody')))
        self.assert_none('setting', (0, 2), house(phone(
            'a', empty, ((), '', '', '', 'a'), ((), '', '', '', 'c'), ((), '', 'a', '', ''), ((), '', 'd', '', ''))))

    def test_members(self):
        self.assert_none('member', (0, 0), house(group('g', 'nobody')))
        self.assert_none('member', (1, 2), house(phone('a'), group('g', 'a', 'h', 'b', 'c'), group('h', 'a')))
        self.assert_none('member', (1, 1), house(VOX, group('g', 'a', 'vox', after='nobody'), phone('a')))

    def test_after(self):
        self.assert_none('after', 1, house(phone('a'), group('g', 'a', after='nobody')))
        self.assert_house(house(phone('a'), group('g', 'a', after='a')))
        self.assert_house(house(phone('a'), group('g', 'a', after='g')))

    def test_names_go_place_by_place(self):
        broken = phone('a', ((), '', 'nobody', '', ''))
        self.assert_none('member', (0, 0), house(group('g', 'nobody'), broken))
        self.assert_none('setting', (0, 0), house(broken, group('g', 'nobody')))
        self.assert_none('after', 0, house(group('g', 'a', after='nobody'), broken))
        self.assert_none('member', (0, 1), house(group('g', 'a', 'nobody', after='nobody'), phone('a')))

    def test_within(self):
        self.assert_none('within', 0, house(group('g', 'g')))
        self.assert_none('within', 1, house(phone('a'), group('g', 'a', 'g')))
        self.assert_none('within', 0, house(group('g', 'h'), group('h', 'g')))
        self.assert_none('within', 2, house(phone('a'), group('f', 'g'), group('g', 'a', 'h'), group('h', 'g')))
        self.assert_none('within', 1, house(group('f', 'g'), group('g', 'h'), group('h', 'i'), group('i', 'g')))
        self.assert_none('setting', (1, 0), house(group('g', 'g'), phone('a', ((), '', 'b', '', ''))))
        self.assert_none('within', 0, house(group('g', 'g'), bars=(1,)))

    def test_bars(self):
        for odd in ODD:
            if odd != ('ann', 'bob'):
                self.assert_none('bars', 0, (KEPT, (odd,), HOUSE[2]))
                self.assert_none('bars', 1, (KEPT, (('ann', 'ann'), odd), HOUSE[2]))
        for odd in STRINGS + NO_STRINGS:
            self.assert_none('bars', 0, (KEPT, ((odd, 'ann'), ('ann', 'ann')), HOUSE[2]))
            self.assert_none('bars', 0, (KEPT, (('ann', odd), ('ann', 'ann')), HOUSE[2]))
        self.assert_none('bars', 0, (KEPT, (('ann', 'desk'),), HOUSE[2]))
        self.assert_none('bars', 0, (KEPT, (['ann', 'bob'],), HOUSE[2]))
        self.assert_none('bars', 1, (KEPT, (('ann', 'bob'), ('ann', 'bob')), HOUSE[2]))
        self.assert_none('bars', 2, (KEPT, (('ann', 'bob'), ('bob', 'bob'), ('bob', 'ann')), HOUSE[2]))
        self.assert_none('bars', 1, (KEPT, (('bob', 'ann'), ('ann', 'ann'), ('ann', 'desk')), HOUSE[2]))
        self.assert_none('bars', 1, (KEPT, (('ann', 'bob'), ('ann', 'bob', 'ann')), HOUSE[2]))
        self.assert_house((KEPT, (('ann', 'ann'), ('ann', 'vox'), ('desk', 'bob'), ('vox', 'ann')), HOUSE[2]))

    def test_the_first_of_two_is_told(self):
        self.assert_none('shape', -1, (('no', 'border'), (1,), ()))
        self.assert_none('place', 1, (KEPT, (1,), (BOB, ('box', 'vox', 2))))
        self.assert_none('twice', 1, (KEPT, (1,), (BOB, BOB)))
        self.assert_none('setting', (0, 0), (KEPT, (1,), (BOB,)))


if __name__ == '__main__':
    unittest.main()
