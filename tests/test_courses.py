"""Points 5, 7, 23, 25, 26, 27 and 34: courses of calls, who is rung, callers, counts and limits."""

import unittest

from ledcalls.courses import counts_in, course_of, is_cut, is_good, rung_in, told_caller
from ledcalls.harmshows import harms_shown
from oracle import all_calls, some_calls, tell
from samples import ANN, BOB, CALL, HOUSE, KEPT, ODD, VOX, Strict, group, house, phone

PLAIN = ((), '', '', '', '')
FUNCTIONS = (course_of, rung_in, told_caller, counts_in, is_good)


def call_to(one, called, *standings, hour=9):
    """Return a call with the first setting of each phone."""
    return (called, hour, tuple(place[4][0] for place in one[2] if place[0] == 'phone'), standings)


class TestCourses(Strict):

    def assert_course(self, one, call, names, end, rung, told=''):
        with self.subTest(call=call):
            self.assert_same(course_of(one, call), (names, end))
            self.assert_same(rung_in(one, call), rung)
            self.assert_same(told_caller(one, call), told)
            self.assert_same(is_good(one, call), end[0] in ('answered', 'boxed'))

    def test_a_box(self):
        one = house(VOX)
        self.assert_course(one, ('vox', 3, (), ()), ('vox',), ('boxed', 'vox'), ((),))

    def test_a_phone_that_leads_to_nothing(self):
        one = house(phone('a', shows='own'))
        self.assert_course(one, call_to(one, 'a', 'answers'), ('a',), ('answered', 'a'), (('a',),))
        self.assert_course(one, call_to(one, 'a', 'unheard'), ('a',), ('unheard', 'a'), (('a',),))
        self.assert_course(one, call_to(one, 'a', 'busy'), ('a',), ('busy', 'a'), ((),))
        self.assert_course(one, call_to(one, 'a', 'off'), ('a',), ('off', 'a'), ((),))

    def test_a_phone_leads_by_its_standing(self):
        one = house(phone('a', ((), '', 'busy', 'unheard', 'off')), ('box', 'busy', 0), ('box', 'unheard', 0),
                    ('box', 'off', 1))
        self.assert_course(one, call_to(one, 'a', 'answers'), ('a',), ('answered', 'a'), (('a',),))
        self.assert_course(one, call_to(one, 'a', 'busy'), ('a', 'busy'), ('boxed', 'busy'), ((), ()))
        self.assert_course(one, call_to(one, 'a', 'unheard'), ('a', 'unheard'), ('boxed', 'unheard'), (('a',), ()))
        self.assert_course(one, call_to(one, 'a', 'off'), ('a', 'off'), ('boxed', 'off'), ((), ()))

    def test_a_phone_leads_past_in_its_hours_whatever_its_standing(self):
        one = house(phone('a', ((3, 5), 'vox', 'a', 'a', 'a')), VOX)
        for standing in ('answers', 'unheard', 'busy', 'off'):
            for hour in (3, 5):
                self.assert_course(
                    one, call_to(one, 'a', standing, hour=hour), ('a', 'vox'), ('boxed', 'vox'), ((), ()))
        self.assert_course(one, call_to(one, 'a', 'answers', hour=4), ('a',), ('answered', 'a'), (('a',),))
        self.assert_course(one, call_to(one, 'a', 'busy', hour=4), ('a',), ('round', 'a'), ((),))
        self.assert_course(one, call_to(one, 'a', 'unheard', hour=6), ('a',), ('round', 'a'), (('a',),))

    def test_groups(self):
        turns = group('g', 'a', 'h', 'c', after='vox')
        phones = (phone('a'), phone('b'), phone('c'), phone('d'), VOX, group('h', 'd', 'b'))
        one, two = house(*phones, turns), house(*phones, (*turns[:4], 'together', *turns[5:]))
        for standings, first, by_turns, together in (
                (('answers', 'answers', 'answers', 'answers'), 'a', ('a',), ('a', 'd', 'b', 'c')),
                (('unheard', 'answers', 'unheard', 'off'), 'b', ('a', 'b'), ('a', 'b', 'c')),
                (('off', 'unheard', 'answers', 'busy'), 'c', ('b', 'c'), ('b', 'c')),
                (('busy', 'busy', 'answers', 'answers'), 'd', ('d',), ('d', 'c')),
                (('unheard', 'answers', 'answers', 'unheard'), 'b', ('a', 'd', 'b'), ('a', 'd', 'b', 'c'))):
            self.assert_course(one, call_to(one, 'g', *standings), ('g',), ('answered', first), (by_turns,))
            self.assert_course(two, call_to(two, 'g', *standings), ('g',), ('answered', first), (together,))
        for standings, rung in (
                (('unheard',) * 4, ('a', 'd', 'b', 'c')), (('off',) * 4, ()),
                (('busy', 'unheard', 'off', 'unheard'), ('d', 'b'))):
            for form in (one, two):
                self.assert_course(form, call_to(form, 'g', *standings), ('g', 'vox'), ('boxed', 'vox'), (rung, ()))

    def test_a_group_that_leads_to_nothing_ends_unheard(self):
        for way in ('turns', 'together'):
            one = house(phone('a'), group('g', 'a', way=way))
            for standing, rung in (('unheard', ('a',)), ('busy', ()), ('off', ())):
                self.assert_course(one, call_to(one, 'g', standing), ('g',), ('unheard', 'g'), (rung,))

    def test_a_group_does_not_ask_for_the_settings_of_its_phones(self):
        one = house(phone('a', ((9,), 'vox', 'vox', 'vox', 'vox')), VOX, group('g', 'a', after='a'))
        self.assert_course(one, call_to(one, 'g', 'answers'), ('g',), ('answered', 'a'), (('a',),))
        self.assert_course(one, call_to(one, 'g', 'unheard'), ('g', 'a', 'vox'), ('boxed', 'vox'), (('a',), (), ()))

    def test_round(self):
        one = house(phone('a', ((), '', 'b', '', '')), phone('b', ((), '', '', 'g', '')), group('g', 'c', after='b'),
                    phone('c', ((), '', '', '', 'c')))
        self.assert_course(
            one, call_to(one, 'a', 'busy', 'unheard', 'off'), ('a', 'b', 'g'), ('round', 'b'), ((), ('b',), ()))
        self.assert_course(one, call_to(one, 'c', 'busy', 'busy', 'off'), ('c',), ('round', 'c'), ((),))
        own = house(group('g', 'p', after='g', shows='own'), phone('p'))
        self.assert_course(own, call_to(own, 'g', 'unheard'), ('g',), ('round', 'g'), (('p',),))

    def test_the_caller_that_is_told(self):
        one = house(
            phone('a', ((), '', 'b', '', ''), shows='own'), phone('b', ((), '', 'g', '', '')),
            group('g', 'b', after='c', shows='own'), phone('c', ((), '', '', 'd', 'a')), phone('d', shows='own'))
        last = (('d',),)
        for called, names, told in (
                ('a', ('a', 'b', 'g', 'c', 'd'), 'g'), ('b', ('b', 'g', 'c', 'd'), 'g'), ('g', ('g', 'c', 'd'), 'g'),
                ('c', ('c', 'd'), ''), ('d', ('d',), '')):
            rung = [('c',) if name == 'c' else () for name in names[:-1]]
            self.assert_course(
                one, call_to(one, called, 'busy', 'busy', 'unheard', 'unheard'), names, ('unheard', 'd'),
                (*rung, *last), told)
        # The call goes round: its last place shows its own name, but is not left yet.
        two = house(phone('a', ((), '', 'b', '', '')), phone('b', ((), '', 'a', '', ''), shows='own'))
        self.assert_course(two, call_to(two, 'a', 'busy', 'busy'), ('a', 'b'), ('round', 'a'), ((), ()), '')
        self.assert_course(two, call_to(two, 'b', 'busy', 'busy'), ('b', 'a'), ('round', 'b'), ((), ()), 'b')
        past = house(phone('a', ((9,), 'vox', '', '', ''), shows='own'), VOX)
        self.assert_course(past, call_to(past, 'a', 'answers'), ('a', 'vox'), ('boxed', 'vox'), ((), ()), 'a')


class TestCountsAndLimits(Strict):

    def row(self, border, sides, back=None):
        """A house of phones in a row, each leading to the next, the last one back or to nothing."""
        names = [f'p{"abcdefgh"[k]}' for k in range(len(sides))]
        targets = [*names[1:], '' if back is None else names[back]]
        return house(*[phone(name, ((), '', target, '', ''), side=side)
                       for name, target, side in zip(names, targets, sides)], border=border)

    def busy(self, one):
        return call_to(one, one[2][0][1], *['busy'] * len(one[2]))

    def test_counts(self):
        for border, sides, back, wanted in (
                (KEPT, (0, 0, 1, 0), None, (0, 1, 2)), (('lost', 'kept'), (0, 0, 1, 0, 0), None, (0, 1, 2, 0)),
                (('kept', 'lost'), (0, 0, 1, 0, 0), None, (0, 1, 0, 1)), (('lost', 'lost'), (0, 1, 0, 0), None, (0, 0, 0)),
                (('lost', 'lost'), (1, 1, 1), None, (0, 1)), (KEPT, (0,), None, ()), (KEPT, (0,), 0, (0,)),
                (KEPT, (1, 0, 0), 1, (0, 1, 2)), (('kept', 'lost'), (0, 0, 1, 1), 0, (0, 1, 0, 1)),
                (('lost', 'kept'), (1, 1, 1, 1), 2, (0, 1, 2, 3))):
            one = self.row(border, sides, back)
            self.assert_same(counts_in(one, self.busy(one)), wanted)

    def test_limits_of_a_call_that_ends(self):
        one = self.row(('kept', 'lost'), (0, 0, 0, 1, 1))
        call = self.busy(one)
        self.assert_same(counts_in(one, call), (0, 1, 2, 0))
        for limit, cut in ((0, True), (1, True), (2, True), (3, False), (4, False), (10 ** 59, False)):
            self.assert_same(is_cut(one, call, limit), cut)
        only = self.row(KEPT, (0,))
        self.assert_same([is_cut(only, self.busy(only), 0), is_cut(limit=1, house=one, call=call)], [False, True])

    def test_limits_of_a_ring_that_loses_no_count(self):
        for border, sides, back in (
                (KEPT, (0, 1), 0), (('lost', 'lost'), (0, 1, 1), 1), (KEPT, (0,), 0), (('kept', 'lost'), (1, 0, 0), 1)):
            one = self.row(border, sides, back)
            for limit in (0, 1, 5, 100, 10 ** 59):
                self.assert_same(is_cut(one, self.busy(one), limit), True)

    def test_limits_of_a_ring_that_loses_counts(self):
        for border, sides, back, least in (
                (('kept', 'lost'), (0, 1), 0, 2), (('lost', 'lost'), (0, 1), 0, 1), (('lost', 'lost'), (0, 0, 1), 0, 2),
                # The count is lost on the ring's last hop; ahead of the ring it is greatest.
                (('lost', 'kept'), (0, 0, 0, 0, 1), 3, 5), (('kept', 'lost'), (0, 1), 1, None),
                # It is greatest in the second turn, as the ring is come to amid.
                (('kept', 'lost'), (0, 1, 0, 0, 0), 0, 5), (('kept', 'lost'), (1, 0, 0, 0), 0, 4),
                (('kept', 'lost'), (0, 0, 1, 0, 0), 1, 4)):
            one = self.row(border, sides, back)
            for limit in range(12):
                self.assert_same(is_cut(one, self.busy(one), limit), least is None or limit < least)

    def test_the_example(self):
        self.assert_same([is_cut(HOUSE, CALL, limit) for limit in range(4)], [True, True, False, False])


class TestBesideTheOracle(Strict):

    def assert_as_told(self, one, call):
        wanted = tell(one, call)
        got = {
            'course': course_of(one, call), 'rung': rung_in(one, call), 'told': told_caller(one, call),
            'good': is_good(one, call), 'counts': counts_in(one, call), 'harms': harms_shown(one, call)}
        for key, thing in got.items():
            self.assert_same((key, one, call, thing), (key, one, call, wanted[key]))
        for limit in (0, 1, 2, 3, 5, 9, 30):
            cut = any(count >= limit for count in wanted['ever'])
            self.assert_same((one, call, limit, is_cut(one, call, limit)), (one, call, limit, cut))

    def test_all_calls_of_the_example(self):
        for call in all_calls(HOUSE, (0, 9)):
            self.assert_as_told(HOUSE, call)

    def test_some_calls_of_many_houses(self):
        told = {}
        for one, call in some_calls(300, 6, 7):
            self.assert_as_told(one, call)
            told[course_of(one, call)[1][0]] = True
        self.assertEqual(sorted(told), ['answered', 'boxed', 'busy', 'off', 'round', 'unheard'])

    def test_consequences(self):
        for one, call in some_calls(150, 4, 8):
            end = course_of(one, call)[1][0]
            cut = [is_cut(one, call, limit) for limit in range(20)]
            self.assertEqual(cut, sorted(cut, reverse=True))
            if is_good(one, call):
                self.assertFalse({'round', 'lost'} & set(harms_shown(one, call)))
            if end != 'round':
                counts = counts_in(one, call)
                self.assert_same(is_cut(one, call, max(counts, default=-1) + 1), False)
                self.assertEqual(len(counts), len(course_of(one, call)[0]) - 1)

    def test_phones_that_are_not_on_the_course_do_not_matter(self):
        for one, call in some_calls(150, 3, 9):
            places = {place[1]: place for place in one[2]}
            waiting, on = [*course_of(one, call)[0]], set()
            while waiting:
                name = waiting.pop()
                on.add(name)
                waiting.extend(places[name][5] if places[name][0] == 'group' else ())
            phones = [place for place in one[2] if place[0] == 'phone']
            book = tuple(setting if place[1] in on else place[4][-1] for place, setting in zip(phones, call[2]))
            standings = tuple(
                standing if place[1] in on else 'answers' for place, standing in zip(phones, call[3]))
            late = (*call[:2], book, standings)
            self.assert_same(course_of(one, late), course_of(one, call))
            self.assert_same(rung_in(one, late), rung_in(one, call))


class TestWrongArguments(Strict):

    def test_the_house_is_judged_first(self):
        for odd in (*ODD, HOUSE[:2], house(BOB, VOX)):
            for function in FUNCTIONS:
                self.assert_unusable('house', function, odd, CALL)
                self.assert_unusable('house', function, odd, None)
            self.assert_unusable('house', is_cut, odd, None, -1)

    def test_call(self):
        odd = (*ODD, HOUSE, CALL[:3], (*CALL, ()), ('desk', True, *CALL[2:]), ('no', *CALL[1:]),
               ('ann', 0, (ANN[4][0], ((0, True), 'vox', '', 'ann', '')), CALL[3]), (*CALL[:3], ('busy', 'Off')))
        for function in FUNCTIONS:
            self.assert_each_unusable('call', odd, lambda thing: function(HOUSE, thing))
        self.assert_each_unusable('call', odd, lambda thing: is_cut(HOUSE, thing, 1))
        self.assert_each_unusable('call', odd, lambda thing: is_cut(HOUSE, thing, None))

    def test_limit(self):
        odd = (None, True, False, -1, -10 ** 59, '', '1', [], [1], (), (1,), CALL)
        self.assert_each_unusable('limit', odd, lambda thing: is_cut(HOUSE, CALL, thing))
        ends = ('vox', *CALL[1:])
        self.assert_each_unusable('limit', odd, lambda thing: is_cut(HOUSE, ends, thing))

    def test_by_name(self):
        for function in FUNCTIONS:
            self.assert_same(function(call=CALL, house=HOUSE), function(HOUSE, CALL))


if __name__ == '__main__':
    unittest.main()
