"""Points 32, 33 and 34: calls as objects."""

import unittest

from ledcalls import callclasses
from ledcalls.callclasses import Call, Harmless
from ledcalls.callreadings import read_call
from ledcalls.callseen import calls_to
from ledcalls.calltexts import call_text
from ledcalls.courses import course_of, rung_in
from ledcalls.harmshows import harms_shown
from ledcalls.houseclasses import House
from oracle import small_houses, some_calls, tell
from samples import ANN, BOB, CALL, HOUSE, KEPT, NO_STRINGS, ODD, VOX, Strict, error_of, group, house, phone

PLAIN = ((), '', '', '', '')
FIRST, SECOND = BOB[4]
GOOD = ('ann', 9, CALL[2], ('answers', 'off'))
TRUE = ((False, True), 'vox', '', 'ann', '')
LISTED = (
    '__init__', 'house_now', 'called_now', 'hour_now', 'book_now', 'standings_now', 'call_now', 'course_now', 'rung_now',
    'harms_now', 'at_hour', 'to', 'with_setting', 'with_standing', '__mod__', '__add__', '__getitem__', '__contains__',
    '__len__', '__eq__', '__str__', 'of', 'read')
# None of these is a tuple of the name of a phone and a standing.
NO_PAIRS = (
    *ODD, ('ann', 'Busy'), ('vox', 'busy'), ('desk', 'off'), ('bob', FIRST), ['bob', 'busy'], ('bob', 'busy', 'off'), ('bob',),
    ('nobody', 'busy'), ('busy', 'bob'), (None, 'busy'), ('bob', None), ('bob', True), (1, 'busy'), (('bob',), 'busy'),
    ('bob', ['busy']), ('bob', ''), 'bob busy', 'busy', CALL)
# None of these is a standing.
NO_STANDINGS = (*ODD, 'Busy', 'hours', 'answered', 'boxed', 'round', 'dropped', ('busy',), ['busy'], 0, 1)
# None of these is a setting of bob.
NO_SETTINGS = (*ODD, PLAIN, ANN[4][0], list(FIRST), TRUE, ((0, True), *SECOND[1:]), [(0, 1), *SECOND[1:]], BOB[4], 0, 1)
NO_NAMES = (*ODD, HOUSE, CALL, 0, ANN, ('ann',), 'annn', 'ANN')


class TestCall(Strict):

    def assert_call(self, one, wanted, form=HOUSE):
        """It is a Call, of this class itself, of the house and with the call."""
        self.assertIs(one.__class__, Call)
        self.assert_same(one.call_now, wanted)
        self.assert_same(one.house_now, form)

    def test_each_listed_method_stands_in_the_class_itself(self):
        for name in LISTED:
            self.assertIn(name, vars(Call))
        self.assertIn('__init__', vars(Harmless))
        self.assertIsInstance(vars(Call)['of'], staticmethod)
        self.assertIsInstance(vars(Call)['read'], classmethod)
        self.assertEqual(Harmless.__bases__, (Call,))
        self.assertEqual({Call.__module__, Harmless.__module__}, {callclasses.__name__})

    def test_properties(self):
        one = Call(HOUSE, *CALL)
        self.assert_same(
            [one.house_now, one.called_now, one.hour_now, one.book_now, one.standings_now], [HOUSE, *CALL])
        self.assert_same(one.call_now, CALL)
        self.assert_same(one.course_now, (('ann', 'bob'), ('round', 'ann')))
        self.assert_same(one.rung_now, ((), ('bob',)))
        self.assert_same(one.harms_now, ('round',))
        named = Call(standings=(), book=(), hour=0, called='vox', house=house(VOX))
        self.assert_same(named.call_now, ('vox', 0, (), ()))
        for name in LISTED[1:10]:
            self.assertRaises(AttributeError, setattr, one, name, ())

    def test_properties_beside_the_functions(self):
        for form, call in some_calls(150, 4, 32):
            one = Call(form, *call)
            told = tell(form, call)
            self.assert_same([one.course_now, one.rung_now, one.harms_now], [told['course'], told['rung'], told['harms']])
            self.assert_same(one.course_now, course_of(form, call))
            self.assert_same([one.rung_now, one.harms_now], [rung_in(form, call), harms_shown(form, call)])
            self.assert_same(len(one), len(told['course'][0]))
            for place in form[2]:
                self.assert_same(place[1] in one, place[1] in told['course'][0])

    def test_errors_of_a_call(self):
        for odd in (*ODD, HOUSE[:2], house(BOB, VOX)):
            self.assert_unusable('house', Call, odd, *CALL)
            self.assert_unusable('house', Call, odd, None, None, None, None)
        for odd in NO_NAMES:
            self.assert_unusable('called', Call, HOUSE, odd, *CALL[1:])
            self.assert_unusable('called', Call, HOUSE, odd, None, None, None)
        for odd in (*ODD, 'ann', (9,)):
            self.assert_unusable('hour', Call, HOUSE, 'ann', odd, *CALL[2:])
            self.assert_unusable('hour', Call, HOUSE, 'vox', odd, None, None)
        for odd in (*ODD, CALL[2][:1], (*CALL[2], FIRST), CALL[2][::-1], list(CALL[2]), (ANN[4][0], TRUE),
                    (ANN[4][0], PLAIN), (ANN[4], BOB[4]), (ANN[4][0], None), (None, FIRST)):
            self.assert_unusable('book', Call, HOUSE, 'ann', 9, odd, CALL[3])
            self.assert_unusable('book', Call, HOUSE, 'ann', 0, odd, None)
        for odd in (*ODD, ('busy',), ('busy',) * 3, ['busy', 'off'], ('busy', 'Off'), ('busy', None), (True, 'off'), 'busy'):
            self.assert_unusable('standings', Call, HOUSE, *CALL[:3], odd)
        self.assert_unusable('book', Call, house(VOX), 'vox', 0, None, ())
        self.assert_unusable('standings', Call, house(VOX), 'vox', 0, (), [])

    def test_at_hour(self):
        one = Call(HOUSE, *CALL)
        for hour in range(24):
            wanted = ('ann', hour, *CALL[2:])
            self.assert_call(one.at_hour(hour), wanted)
            self.assert_call(one % hour, wanted)
        self.assert_call(one.at_hour(hour=0), ('ann', 0, *CALL[2:]))
        for odd in (*ODD, 'ann', CALL, one):
            self.assert_unusable('hour', one.at_hour, odd)
            self.assert_unusable('hour', lambda thing: one % thing, odd)
        self.assert_call(one, CALL)

    def test_to(self):
        one = Call(HOUSE, *CALL)
        for name in ('ann', 'bob', 'desk', 'vox'):
            self.assert_call(one.to(name), (name, *CALL[1:]))
        self.assert_call(one.to(name='vox'), ('vox', *CALL[1:]))
        self.assert_each_unusable('name', (*NO_NAMES, one), one.to)
        self.assert_call(one, CALL)

    def test_with_setting(self):
        one = Call(HOUSE, *CALL)
        self.assert_call(one.with_setting('bob', SECOND), (*CALL[:2], (ANN[4][0], SECOND), CALL[3]))
        self.assert_call(one.with_setting('bob', FIRST), CALL)
        self.assert_call(one.with_setting(setting=ANN[4][0], name='ann'), CALL)
        for odd in (*NO_NAMES, 'vox', 'desk', 'nobody'):
            self.assert_unusable('name', one.with_setting, odd, FIRST)
            self.assert_unusable('name', one.with_setting, odd, None)
        self.assert_each_unusable('setting', NO_SETTINGS, lambda thing: one.with_setting('bob', thing))
        self.assert_unusable('setting', one.with_setting, 'ann', FIRST)
        self.assert_call(one, CALL)

    def test_with_standing(self):
        one = Call(HOUSE, *CALL)
        for word in ('answers', 'unheard', 'busy', 'off'):
            for k, name in enumerate(('ann', 'bob')):
                wanted = list(CALL[3])
                wanted[k] = word
                wanted = (*CALL[:3], tuple(wanted))
                self.assert_call(one.with_standing(name, word), wanted)
                self.assert_call(one + (name, word), wanted)
        self.assert_call(one.with_standing(standing='off', name='bob'), (*CALL[:3], ('busy', 'off')))
        for odd in (*NO_NAMES, 'vox', 'desk', 'nobody'):
            self.assert_unusable('name', one.with_standing, odd, 'off')
            self.assert_unusable('name', one.with_standing, odd, None)
        self.assert_each_unusable('standing', NO_STANDINGS, lambda thing: one.with_standing('bob', thing))
        self.assert_each_unusable('pair', (*NO_PAIRS, one), lambda thing: one + thing)
        self.assert_call(one, CALL)

    def test_items(self):
        one = Call(HOUSE, *CALL)
        self.assert_same([one['ann'], one['bob']], [(ANN[4][0], 'busy'), (FIRST, 'unheard')])
        self.assert_each_unusable('name', (*NO_NAMES, 'desk', 'vox', 1, one), lambda thing: one[thing])

    def test_in_and_len(self):
        one = Call(HOUSE, *CALL)
        self.assert_same([name in one for name in ('ann', 'bob', 'desk', 'vox')], [True, True, False, False])
        for odd in (*ODD, HOUSE, CALL, 'an', 'round', one, ('ann', 'bob')):
            self.assert_same(odd in one, False)
        self.assert_same([len(one), bool(one), len(one.to('desk')), len(one.to('vox'))], [2, True, 2, 1])

    def test_no_iteration(self):
        one = Call(HOUSE, *CALL)
        self.assertRaises(TypeError, iter, one)
        self.assertRaises(TypeError, list, one)
        self.assertRaises(TypeError, lambda: [*one])

    def test_equal(self):
        one = Call(HOUSE, *CALL)
        self.assert_same([one == Call(HOUSE, *CALL), one != Call(HOUSE, *CALL)], [True, False])
        more = (*HOUSE[:2], (*HOUSE[2], ('box', 'more', 0)))
        others = (
            one % 8, one.to('bob'), one.with_setting('bob', SECOND), one + ('bob', 'busy'), Call(more, *CALL),
            Call((KEPT, *HOUSE[1:]), *CALL), Call((HOUSE[0], (), HOUSE[2]), *CALL))
        for other in others:
            self.assert_same([one == other, other == one, one != other], [False, False, True])
        for odd in (*ODD, CALL, (HOUSE, CALL), (HOUSE, *CALL), call_text(HOUSE, CALL), House(*HOUSE)):
            self.assert_same([one == odd, odd == one, one != odd], [False, False, True])
        zero = one % 0
        self.assert_same(zero == ('ann', False, *CALL[2:]), False)
        self.assert_unusable('hour', Call, HOUSE, 'ann', False, *CALL[2:])

    def test_text(self):
        for form, call in some_calls(60, 3, 320):
            one = Call(form, *call)
            self.assert_same(str(one), call_text(form, call))
            self.assert_same(Call.read(form, str(one)) == one, True)

    def test_of(self):
        self.assert_call(Call.of(HOUSE, CALL), CALL)
        self.assert_call(Call.of(call=CALL, house=HOUSE), CALL)
        for odd in (*ODD, HOUSE[:2], house(BOB, VOX)):
            self.assert_unusable('house', Call.of, odd, CALL)
            self.assert_unusable('house', Call.of, odd, None)
        odd = (*ODD, HOUSE, CALL[:3], list(CALL), ('no', *CALL[1:]), ('ann', True, *CALL[2:]), (*CALL[:3], ('off', 'Off')))
        self.assert_each_unusable('call', odd, lambda thing: Call.of(HOUSE, thing))

    def test_read(self):
        self.assert_call(Call.read(HOUSE, 'ann 9 0:busy 0:unheard'), CALL)
        self.assert_call(Call.read(text='vox 0 0:off 1:off', house=HOUSE), read_call(HOUSE, 'vox 0 0:off 1:off'))
        for odd in (*ODD, HOUSE[:2]):
            self.assert_unusable('house', Call.read, odd, 'ann 9 0:busy 0:unheard')
            self.assert_unusable('house', Call.read, odd, None)
        self.assert_each_unusable('text', (*NO_STRINGS, CALL), lambda thing: Call.read(HOUSE, thing))
        self.assert_text(0, 3, Call.read, HOUSE, 'ann 9 0:busy 2:off')
        self.assert_text(0, 0, Call.read, HOUSE, '')
        self.assert_text(0, 4, Call.read, HOUSE, 'ann 9 0:busy 0:off ')

    def test_changes_one_after_the_other(self):
        one = Call(HOUSE, *CALL)
        late = ((one % 1).to('bob') + ('bob', 'answers')).with_setting('bob', SECOND).with_standing('ann', 'off')
        self.assert_call(late, ('bob', 1, (ANN[4][0], SECOND), ('off', 'answers')))
        self.assert_same(late.course_now, (('bob', 'vox'), ('boxed', 'vox')))
        self.assert_call(one, CALL)

    def test_what_is_not_on_the_course_is_free(self):
        for form, call in some_calls(80, 3, 3434):
            one = Call(form, *call)
            places = {place[1]: place for place in form[2]}
            asked, waiting = set(), list(one.course_now[0])
            while waiting:
                name = waiting.pop()
                asked.add(name)
                waiting.extend(places[name][5] if places[name][0] == 'group' else ())
            for name, place in places.items():
                if place[0] == 'phone' and name not in asked:
                    for word in ('answers', 'unheard', 'busy', 'off'):
                        late = one.with_setting(name, place[4][-1]) + (name, word)
                        self.assert_same([late.course_now, late.rung_now], [one.course_now, one.rung_now])


class TestHarmless(Strict):

    def test_it_is_a_call_without_harms(self):
        one = Harmless(HOUSE, *GOOD)
        self.assertIsInstance(one, Call)
        self.assert_same([one.call_now, one.house_now, one.harms_now], [GOOD, HOUSE, ()])
        self.assert_same([one.course_now, one.rung_now], [(('ann',), ('answered', 'ann')), (('ann',),)])
        self.assert_same([len(one), 'ann' in one, one['bob'], str(one)], [1, True, (FIRST, 'off'), 'ann 9 0:answers 0:off'])
        named = Harmless(standings=(), book=(), hour=0, called='vox', house=house(VOX))
        self.assert_same(named.call_now, ('vox', 0, (), ()))

    def test_each_harm(self):
        self.assert_unusable('harm', Harmless, HOUSE, *CALL)
        self.assert_unusable('harm', Harmless, HOUSE, 'ann', 9, CALL[2], ('unheard', 'answers'))
        self.assert_unusable('harm', Harmless, HOUSE, 'bob', 1, (ANN[4][0], SECOND), ('off', 'off'))
        lost = house(phone('a', ((9,), 'b', '', '', '')), phone('b'))
        book = (((9,), 'b', '', '', ''), PLAIN)
        self.assert_unusable('harm', Harmless, lost, 'a', 9, book, ('answers', 'off'))
        self.assert_same(Harmless(lost, 'a', 9, book, ('off', 'off')).harms_now, ())

    def test_beside_the_oracle(self):
        for form in small_houses(20, 33):
            for call in calls_to(form, form[2][0][1], 2):
                if tell(form, call)['harms']:
                    self.assert_unusable('harm', Harmless, form, *call)
                else:
                    self.assert_same(Harmless(form, *call).call_now, call)

    def test_the_errors_of_call_come_first(self):
        for odd in ODD:
            self.assert_unusable('house', Harmless, odd, *CALL)
            self.assert_unusable('called', Harmless, HOUSE, odd, *CALL[1:])
            self.assert_unusable('hour', Harmless, HOUSE, 'ann', odd, *CALL[2:])
            self.assert_unusable('book', Harmless, HOUSE, *CALL[:2], odd, CALL[3])
            self.assert_unusable('standings', Harmless, HOUSE, *CALL[:3], odd)
            self.assert_same(
                error_of(Harmless, HOUSE, odd, odd, odd, odd), ('NotUsable', {'word': 'called', 'at': -1}))

    def test_equal_to_a_call_of_any_class(self):
        one, two = Harmless(HOUSE, *GOOD), Call(HOUSE, *GOOD)
        self.assert_same([one == two, two == one, one == Harmless(HOUSE, *GOOD), one != two], [True, True, True, False])
        self.assert_same([one == Call(HOUSE, *CALL), Call(HOUSE, *CALL) == one], [False, False])

    def test_changes_are_of_the_class_call_itself(self):
        one = Harmless(HOUSE, *GOOD)
        for late, wanted in (
                (one % 9, GOOD), (one.at_hour(1), ('ann', 1, *GOOD[2:])), (one.to('bob'), ('bob', *GOOD[1:])),
                (one.with_setting('bob', SECOND), (*GOOD[:2], (ANN[4][0], SECOND), GOOD[3])),
                (one.with_standing('bob', 'unheard'), (*GOOD[:3], ('answers', 'unheard'))),
                (one + ('ann', 'busy') + ('bob', 'unheard'), CALL)):
            self.assertIs(late.__class__, Call)
            self.assert_same(late.call_now, wanted)
        self.assert_same((one + ('ann', 'busy') + ('bob', 'unheard')).harms_now, ('round',))
        self.assert_same(one.call_now, GOOD)
        self.assertRaises(TypeError, iter, one)


class TestFollows(Strict):

    def test_a_good_call_shows_neither_round_nor_lost(self):
        for form, call in some_calls(200, 4, 340):
            told = tell(form, call)
            if told['good']:
                self.assertFalse({'round', 'lost'} & {*Call(form, *call).harms_now})

    def test_a_group_rings_whom_the_course_asks(self):
        form = house(group('g', 'a', 'b', way='together'), phone('a'), phone('b'))
        one = Call(form, 'g', 0, (PLAIN, PLAIN), ('answers', 'unheard'))
        self.assert_same([one.rung_now, one.course_now], [(('a', 'b'),), (('g',), ('answered', 'a'))])


if __name__ == '__main__':
    unittest.main()
