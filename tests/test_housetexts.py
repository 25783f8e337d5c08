"""Points 13, 19 and 20: texts of places and houses, and that they are read back."""

import random
import unittest

from ledcalls.errors import InvalidText
from ledcalls.housereadings import read_house, read_place
from ledcalls.housetexts import house_text, place_text
from oracle import some_houses
from samples import ANN, BOB, DESK, HOUSE, KEPT, ODD, VOX, Strict, group, house, phone

NO_HOUSES = (
    (KEPT, (('g', 'g'),), (group('g', 'g'),)),
    (KEPT, (('a', 'b'), ('no', 'one')), (group('g', 'x', 'g', after='y'), phone('g'), ('box', 'g', 1))),
    (('lost', 'lost'), (), (phone('a', ((5, 6), 'b', 'c', 'd', 'e')), phone('a'))),
)


class TestTexts(Strict):

    def test_places(self):
        self.assert_same(place_text(ANN), 'phone ann 0 kept\nsetting - - bob desk -')
        self.assert_same(place_text(place=BOB), 'phone bob 1 own\nsetting - - - ann -\nsetting 0,1 vox - ann -')
        self.assert_same(place_text(DESK), 'group desk 0 kept turns vox ann bob')
        self.assert_same(
            place_text(group('g', 'g', side=1, shows='own', way='together')), 'group g 1 own together - g')
        self.assert_same(place_text(VOX), 'box vox 1')
        self.assert_same(
            place_text(phone('x', ((0, 9, 10, 23), 'no', 'a', 'b', 'c'), side=1)),
            'phone x 1 kept\nsetting 0,9,10,23 no a b c')

    def test_houses(self):
        self.assert_same(house_text(house=HOUSE), '\n'.join((
            'border kept lost', 'phone ann 0 kept', 'setting - - bob desk -', 'phone bob 1 own',
            'setting - - - ann -', 'setting 0,1 vox - ann -', 'group desk 0 kept turns vox ann bob', 'box vox 1',
            'bar bob vox')))
        self.assert_same(house_text(house(VOX)), 'border kept kept\nbox vox 1')
        self.assert_same(
            house_text(NO_HOUSES[1]), 'border kept kept\ngroup g 0 kept turns y x g\nphone g 0 kept\n'
            'setting - - - - -\nbox g 1\nbar a b\nbar no one')

    def test_place_not_usable(self):
        odd = (*ODD, HOUSE, (*VOX, ''), ['box', 'vox', 1], ('box', 'vox', True), ('group', *DESK[1:5], (), ''))
        self.assert_each_unusable('place', odd, place_text)

    def test_house_not_usable(self):
        odd = (
            *ODD, ANN, list(HOUSE), HOUSE[:2], (KEPT, (), ()), (KEPT, (), [VOX]), (KEPT, [], (VOX,)),
            (('kept', 'own'), (), (VOX,)), (['kept', 'kept'], (), (VOX,)), (KEPT, (('b', 'a'), ('a', 'b')), (VOX,)),
            (KEPT, (('a', 'b'), ('a', 'b')), (VOX,)), (KEPT, (['a', 'b'],), (VOX,)), (KEPT, (('a',),), (VOX,)),
            (KEPT, (('a', 'b', 'c'),), (VOX,)), (KEPT, (('a', ''),), (VOX,)), (KEPT, ((None, 'a'),), (VOX,)),
            (KEPT, (), (VOX, None)), (KEPT, (), (['box', 'vox', 1],)), (KEPT, ('ab',), (VOX,)),
            (KEPT, (), (('box', 'vox', True),)), (KEPT, (('a', ['b']),), (VOX,)), (KEPT, 'ab', (VOX,)), HOUSE + ((),))
        self.assert_each_unusable('house', odd, house_text)


class TestReadBack(Strict):

    def test_what_is_written_is_read(self):
        for one in (*some_houses(150, 19), *NO_HOUSES):
            text = house_text(one)
            self.assert_same(read_house(text), one)
            self.assert_same(house_text(read_house(text)), text)
            for place in one[2]:
                self.assert_same(read_place(place_text(place)), place)

    def test_what_is_read_is_written(self):
        chance = random.Random(20)
        read = 0
        for one in some_houses(150, 21):
            for _ in range(20):
                text = list(house_text(one))
                at = chance.randrange(len(text))
                text[at:at + chance.randint(0, 2)] = chance.choice(['', ' ', '-', 'a', '\n', '0', '1', ',', 'b ', ' a'])
                text = ''.join(text)
                try:
                    found = read_house(text)
                except InvalidText as error:
                    rows = text.split('\n')
                    self.assertTrue(0 <= error.line <= len(rows))
                    many = len(rows[error.line].split(' ')) if error.line < len(rows) else 0
                    self.assertTrue(0 <= error.field <= many)
                else:
                    read += 1
                    self.assert_same(house_text(found), text)
        self.assertGreater(read, 100)

    def test_longest_values(self):
        hours = tuple(range(24))
        names = ['n' + ''.join(chr(97 + k // 26 ** j % 26) for j in range(3)) for k in range(700)]
        settings = tuple(sorted([(hours[k:], name, name, '', name) for k in (0, 7) for name in names[:100]]))
        places = (('phone', 'a', 0, 'own', settings), ('group', 'b', 1, 'own', 'turns', tuple(names), ''))
        one = (KEPT, tuple(sorted([(name, name) for name in names])), places)
        self.assert_same(read_house(house_text(one)), one)


if __name__ == '__main__':
    unittest.main()
