"""Points 23 and 31: pictures of calls."""

import unittest

from ledcalls.pictures import call_picture
from oracle import some_calls, tell, visit
from samples import ANN, BOB, CALL, HOUSE, ODD, VOX, Strict, group, house, phone

LINE = (
    phone('a', ((), '', 'b', '', '')), phone('b', ((), '', 'c', '', ''), side=1), phone('c', ((), '', 'd', '', ''), side=1),
    phone('d', ((), '', 'a', '', '')))


def picture(one, called, *standings, hour=9):
    """The picture of the call with the first setting of each phone."""
    book = tuple(place[4][0] for place in one[2] if place[0] == 'phone')
    return call_picture(one, (called, hour, book, standings))


def slow_picture(one, call):
    """The picture as the slow model has it."""
    told = tell(one, call)
    names, end = told['course']
    sides = {place[1]: place[2] for place in one[2]}
    kinds = {place[1]: place[0] for place in one[2]}
    settings = dict(zip([place[1] for place in one[2] if place[0] == 'phone'], zip(*call[2:])))
    rows, count = [], 0
    for k, name in enumerate(names):
        if k and sides[name] != sides[names[k - 1]] and one[0][sides[name]] == 'lost':
            count = 0
        elif k:
            count += 1
        target = visit(one, call, name)[1]
        if kinds[name] == 'phone' and call[1] in settings[name][0][0]:
            word = 'hours'
        elif target:
            word = 'after' if kinds[name] == 'group' else settings[name][1]
        else:
            word = end[0]
        rows.append(f"{count} {name} {word} {target or '-'} {','.join(told['rung'][k]) or '-'}")
    return rows


class TestPictures(Strict):

    def test_ends(self):
        one = house(phone('a'), VOX, group('g', 'a', 'b'), phone('b'), group('h', 'b', 'a', way='together'))
        self.assert_same(picture(one, 'a', 'answers', 'off'), ['0 a answered - a'])
        self.assert_same(picture(one, 'a', 'busy', 'off'), ['0 a busy - -'])
        self.assert_same(picture(one, 'a', 'unheard', 'off'), ['0 a unheard - a'])
        self.assert_same(picture(one, 'a', 'off', 'answers'), ['0 a off - -'])
        self.assert_same(picture(one, 'vox', 'off', 'answers'), ['0 vox boxed - -'])
        self.assert_same(picture(one, 'g', 'answers', 'answers'), ['0 g answered - a'])
        self.assert_same(picture(one, 'g', 'unheard', 'answers'), ['0 g answered - a,b'])
        self.assert_same(picture(one, 'g', 'unheard', 'busy'), ['0 g unheard - a'])
        self.assert_same(picture(one, 'g', 'off', 'busy'), ['0 g unheard - -'])
        self.assert_same(picture(one, 'h', 'answers', 'answers'), ['0 h answered - b,a'])

    def test_leads(self):
        early = phone('a', ((3, 9), 'b', 'vox', '', ''))
        one = house(early, phone('b', ((), '', '', 'g', '')), group('g', 'b', 'a', after='vox'), VOX, phone('c', ((), '', '', '', 'g')))
        self.assert_same(
            picture(one, 'a', 'unheard', 'unheard', 'busy'),
            ['0 a hours b -', '1 b unheard g b', '2 g after vox b,a', '3 vox boxed - -'])
        self.assert_same(picture(one, 'a', 'busy', 'off', 'off', hour=8), ['0 a busy vox -', '1 vox boxed - -'])
        self.assert_same(picture(one, 'c', 'answers', 'off', 'off'), ['0 c off g -', '1 g answered - a'])

    def test_round(self):
        self.assert_same(call_picture(HOUSE, CALL), ['0 ann busy bob -', '0 bob unheard ann bob'])
        one = house(phone('a', ((), '', 'a', '', '')))
        self.assert_same(picture(one, 'a', 'busy'), ['0 a busy a -'])
        one = house(group('g', 'a', after='g'), phone('a'))
        self.assert_same(picture(one, 'g', 'unheard'), ['0 g after g a'])
        one = house(*LINE)
        self.assert_same(
            picture(one, 'c', *['busy'] * 4), ['0 c busy d -', '1 d busy a -', '2 a busy b -', '3 b busy c -'])

    def test_borders(self):
        for border, counts in ((('kept', 'kept'), '0123'), (('kept', 'lost'), '0012'), (('lost', 'kept'), '0120'),
                               (('lost', 'lost'), '0010')):
            rows = picture(house(*LINE, border=border), 'a', *['busy'] * 4)
            self.assert_same(''.join(row[0] for row in rows), counts)
        one = house(*LINE[:3], phone('d', side=0), border=('lost', 'lost'))
        self.assert_same(picture(one, 'b', *['busy'] * 4), ['0 b busy c -', '1 c busy d -', '0 d busy - -'])

    def test_beside_the_oracle(self):
        words = set()
        for one, call in some_calls(300, 5, 31):
            rows = call_picture(one, call)
            self.assert_same(rows, slow_picture(one, call))
            words |= {row.split(' ')[2] for row in rows}
        self.assertEqual(words, {'hours', 'busy', 'unheard', 'off', 'after', 'answered', 'boxed'})

    def test_the_list_belongs_to_the_caller(self):
        rows = call_picture(HOUSE, CALL)
        rows.clear()
        self.assert_same(call_picture(HOUSE, CALL), ['0 ann busy bob -', '0 bob unheard ann bob'])
        self.assertIsNot(call_picture(HOUSE, CALL), call_picture(HOUSE, CALL))

    def test_not_usable(self):
        for odd in (*ODD, HOUSE[:2], house(BOB, VOX)):
            for call in (CALL, None):
                self.assert_unusable('house', call_picture, odd, call)
        odd = (*ODD, HOUSE, CALL[:3], list(CALL), ('ann', True, *CALL[2:]), (*CALL[:3], ('busy', 'Off')), ANN)
        self.assert_each_unusable('call', odd, lambda thing: call_picture(HOUSE, thing))
        self.assert_same(len(call_picture(call=CALL, house=HOUSE)), 2)


if __name__ == '__main__':
    unittest.main()
