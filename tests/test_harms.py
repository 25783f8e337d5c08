"""Points 6, 9 (L2), 35, 40, 41 and 45: the harms and the ends that calls to a place can have."""

import random
import unittest

from ledcalls.callchecker import is_call
from ledcalls.courses import course_of
from ledcalls.harmchecker import lets_harm
from ledcalls.harms import end_call, ends_of, harm_call, harms_of, is_harmless
from ledcalls.kinds import HARMS
from ledcalls.rings import can_round
from oracle import great_house, some_call, some_houses, tell, told_houses
from samples import ANN, BOB, HOUSE, KEPT, ODD, VOX, Strict, group, house, phone

PLAIN = ((), '', '', '', '')
WORDS = ('answered', 'boxed', 'busy', 'unheard', 'off', 'round')
# None of these is a harm, or an end.
NO_HARMS = (*ODD, 'Round', 'round ', 'busy', 'answers', 'ann', ('round',), ['round'], 0, HARMS, HOUSE)
NO_ENDS = (
    *ODD, ('lost', 'bob'), ('busy',), ('busy', 'bob', 'bob'), ['busy', 'bob'], ('busy', 'nobody'), ('busy', ''), ('', 'bob'),
    ('bob', 'busy'), (None, 'bob'), ('busy', None), ('busy', True), (True, 'bob'), (('busy',), 'bob'), ('busy', ['bob']),
    ('busy', BOB), ('answers', 'bob'), ('cut', 'bob'), ('dropped', 'bob'), ('twice', 'bob'), ('barred', 'vox'), 'busy bob', 0, HOUSE)
NO_TUPLES_OF_HARMS = (
    *(odd for odd in ODD if odd != ()), ('lost', 'lost'), ('round', 'twice', 'round'), ['lost'], ('lost', None), ('lost', True),
    (('lost',),), ('lost', 'busy'), ('',), 'lost', {'lost': True}, ('Lost',), (['lost'],), 0)


class TestHarms(Strict):

    def assert_harms(self, one, name, *wanted):
        """These harms, ascending, can happen to the place; there is a call for each, and for no other one."""
        self.assert_same((name, harms_of(one, name)), (name, wanted))
        for harm in HARMS:
            call = harm_call(one, name, harm)
            self.assert_same(call is not None, harm in wanted)
            if call is not None:
                self.assertTrue(is_call(one, call))
                self.assert_same(call[0], name)
                self.assertIn(harm, tell(one, call)['harms'])
                self.assert_same(lets_harm(one, name, harm, call), True)

    def test_of_the_document(self):
        self.assert_harms(HOUSE, 'ann', 'round', 'twice')
        self.assert_harms(HOUSE, 'bob', 'barred', 'round', 'twice')
        self.assert_harms(HOUSE, 'desk')
        self.assert_harms(HOUSE, 'vox')

    def test_boxes_alone(self):
        one = house(VOX, ('box', 'a', 0))
        self.assert_harms(one, 'vox')
        self.assert_harms((KEPT, (('a', 'vox'), ('vox', 'vox')), one[2]), 'a')
        self.assert_harms((KEPT, (('a', 'vox'), ('vox', 'vox')), one[2]), 'vox', 'barred')

    def test_round(self):
        one = house(phone('a', ((23,), 'a', '', '', '')), phone('b', ((), '', '', '', 'a')), phone('c', ((), '', 'b', '', '')))
        for name in 'abc':
            self.assert_harms(one, name, 'round')
        self.assert_same([harm_call(one, name, 'round')[1] for name in 'abc'], [23, 23, 23])

    def test_twice_at_a_phone_and_a_group(self):
        for word in ('busy', 'unheard', 'off'):
            links = ['g' if word == other else '' for other in ('busy', 'unheard', 'off')]
            one = house(phone('a', ((), '', *links)), group('g', 'b', 'a'), phone('b'))
            self.assert_harms(one, 'a', *(['twice'] if word == 'unheard' else []))
            self.assert_harms(one, 'g')
            self.assert_harms(one, 'b')
        one = house(phone('a'), group('g', 'b', 'a', after='a'), phone('b'))
        self.assert_harms(one, 'g', 'twice')

    def test_twice_at_two_groups(self):
        one = house(phone('a'), group('g', 'a', after='h'), group('h', 'b', 'a'), phone('b'))
        self.assert_harms(one, 'g', 'twice')
        self.assert_harms(one, 'h')
        # Between the groups the phone is busy, or leads past: then its standing is free.
        busy = house(phone('a', ((), '', 'h', '', '')), group('g', 'a', after='a'), group('h', 'a'))
        self.assert_harms(busy, 'g', 'twice')
        only = house(phone('a', ((), '', 'h', '', '')), group('g', 'c', after='a'), group('h', 'a'), phone('c'))
        self.assert_harms(only, 'g')
        past = house(phone('a', ((7,), 'h', '', '', '')), group('g', 'a', after='b'), group('h', 'a'), phone('b', ((), '', 'a', '', '')))
        self.assert_harms(past, 'g', 'twice')

    def test_who_is_busy_or_off_is_not_rung_at_groups(self):
        groups = (group('g', 'b', 'a', after='h'), group('h', 'a', 'b', way='together'))
        for word in ('busy', 'unheard', 'off'):
            links = ['g' if word == other else '' for other in ('busy', 'unheard', 'off')]
            # The phone b is rung at both groups; in the second house there is none but a.
            self.assert_harms(house(phone('a', ((), '', *links)), *groups, phone('b')), 'a', 'twice')
            alone = (group('g', 'a', after='h'), group('h', 'a'))
            one = house(phone('a', ((), '', *links)), *alone)
            self.assert_harms(one, 'a', *(['twice'] if word == 'unheard' else []))
            self.assert_harms(one, 'g', 'twice')
            # A setting with which the phone leads past leaves its standing free.
            two = house(phone('a', ((), '', *links), ((23,), 'g', '', '', '')), *alone)
            self.assert_harms(two, 'a', 'twice')

    def test_led_past_is_not_rung(self):
        hours = tuple(range(24))
        one = house(phone('a', (hours, 'g', '', '', '')), group('g', 'a'))
        self.assert_harms(one, 'a')
        one = house(phone('a', (hours[1:], 'g', '', 'g', '')), group('g', 'a'))
        self.assert_harms(one, 'a', 'twice')
        self.assert_same(harm_call(one, 'a', 'twice')[1], 0)

    def test_twice_needs_a_way_that_passes_no_place_again(self):
        # From b to the group leads but a: who rang first is at its own place again, and the call goes round.
        one = house(phone('a', ((), '', 'g', 'b', '')), phone('b', ((), '', 'a', '', '')), group('g', 'a', 'c'), phone('c'))
        self.assert_harms(one, 'b', 'round')
        self.assert_harms(one, 'a', 'round')
        two = house(phone('a', ((), '', '', 'b', '')), phone('b', ((), '', 'g', '', '')), group('g', 'a', 'c'), phone('c'))
        self.assert_harms(two, 'a', 'twice')

    def test_lost(self):
        past = phone('a', ((9,), 'b', '', '', ''))
        for word in ('busy', 'unheard', 'off'):
            links = ['' if word == other else 'vox' for other in ('busy', 'unheard', 'off')]
            self.assert_harms(house(past, phone('b', ((), '', *links)), VOX), 'a', 'lost')
            self.assert_harms(house(past, phone('b', ((), '', *links)), VOX), 'b')
        self.assert_harms(house(past, phone('b', ((), '', 'vox', 'vox', 'vox')), VOX), 'a')
        self.assert_harms(house(past, group('b', 'c'), phone('c')), 'a', 'lost')
        self.assert_harms(house(past, group('b', 'c', after='vox'), phone('c'), VOX), 'a')

    def test_lost_needs_a_phone_in_no_group_on_the_course(self):
        past = phone('a', ((9,), 'g', '', '', ''))
        self.assert_harms(house(past, group('g', 'c', 'a'), phone('c')), 'a')
        self.assert_harms(house(past, group('g', 'c', 'a', after='c'), phone('c')), 'a', 'twice')
        self.assert_harms(house(past, group('g', 'c', after='c'), phone('c')), 'a', 'lost', 'twice')
        ahead = house(group('g', 'a', after='a'), phone('a', ((9,), 'c', '', '', '')), phone('c'), group('h', 'c', after='a'))
        self.assert_harms(ahead, 'a', 'lost')
        self.assert_harms(ahead, 'g', 'twice')
        self.assert_harms(ahead, 'h', 'lost', 'twice')

    def test_lost_on_the_way_to_a_ring(self):
        one = house(phone('a', ((9,), 'b', 'c', 'c', 'c')), phone('b', ((9,), 'a', 'c', 'c', 'c')), ('box', 'c', 0))
        self.assert_harms(one, 'a', 'round')
        two = house(phone('a', ((9,), 'b', 'c', 'c', 'c')), phone('b', ((), '', 'a', 'a', '')), ('box', 'c', 0))
        self.assert_harms(two, 'a', 'lost', 'round')
        self.assert_harms(two, 'b', 'round')

    def test_barred(self):
        places = (phone('a', ((), '', 'b', '', '')), phone('b', ((), '', 'g', '', '')), group('g', 'c', after='vox'), phone('c'), VOX)
        for name, wanted in (('a', 'a'), ('b', 'ab'), ('c', 'abgc'), ('vox', ('a', 'b', 'g', 'vox'))):
            for called in ('a', 'b', 'c', 'g', 'vox'):
                one = (KEPT, ((called, name),), places)
                self.assert_harms(one, called, *(['barred'] if called in wanted else []))
                for other in ('a', 'b', 'c', 'g', 'vox'):
                    if other != called:
                        self.assert_harms(one, other)

    def test_barred_behind_a_way_on_which_the_phone_is(self):
        hours = tuple(range(24))
        # The phone a leads past at any hour: it is rung by the group alone.
        one = (KEPT, (('a', 'a'),), (phone('a', (hours, 'g', '', '', '')), group('g', 'a')))
        self.assert_harms(one, 'a', 'barred')
        two = (KEPT, (('a', 'a'),), (phone('a', (hours, 'b', '', '', '')), phone('b', ((), '', 'a', '', ''))))
        self.assert_harms(two, 'a', 'lost', 'round')
        # Here it is busy on the way to the group; but rung at its own place in another call.
        three = (KEPT, (('b', 'a'),), (phone('b', ((), '', 'a', '', '')), phone('a', ((), '', 'g', '', '')), group('g', 'a')))
        self.assert_harms(three, 'b', 'barred')

    def test_beside_all_calls(self):
        shown = {}
        for one, told in told_houses(60, 40):
            for name, rows in told.items():
                wanted = {harm for _, row in rows for harm in row['harms']}
                with self.subTest(one=one):
                    self.assert_harms(one, name, *sorted(wanted))
                shown.update(dict.fromkeys(wanted))
        self.assertEqual(sorted(shown), sorted(HARMS))

    def test_round_is_told_as_can_round_tells(self):
        for one in some_houses(60, 45):
            for place in one[2]:
                self.assert_same('round' in harms_of(one, place[1]), can_round(one, place[1]))

    def test_not_usable(self):
        for odd in (*ODD, HOUSE[:2], house(BOB, VOX)):
            self.assert_unusable('house', harms_of, odd, 'ann')
            self.assert_unusable('house', harms_of, odd, None)
            self.assert_unusable('house', harm_call, odd, 'ann', 'round')
            self.assert_unusable('house', harm_call, odd, None, None)
        for odd in (*ODD, ANN, HOUSE, 0):
            self.assert_unusable('called', harms_of, HOUSE, odd)
            self.assert_unusable('called', harm_call, HOUSE, odd, 'round')
            self.assert_unusable('called', harm_call, HOUSE, odd, None)
        self.assert_each_unusable('harm', NO_HARMS, lambda thing: harm_call(HOUSE, 'ann', thing))
        self.assert_same(harms_of(called='ann', house=HOUSE), ('round', 'twice'))
        self.assert_same(harm_call(harm='lost', called='ann', house=HOUSE), None)


class TestHarmless(Strict):

    def test_of_the_document(self):
        self.assert_same(is_harmless(HOUSE, harms=('lost',)), True)
        self.assert_same([is_harmless(HOUSE, harms=(harm,)) for harm in HARMS], [False, False, True, False])
        self.assert_same([is_harmless(HOUSE), is_harmless(house(VOX)), is_harmless(HOUSE, harms=())], [False, True, True])
        self.assert_same(is_harmless(HOUSE, harms=('lost', 'barred')), False)
        self.assert_same(is_harmless(HOUSE, harms=('barred', 'lost')), False)
        self.assert_same(is_harmless(harms=('barred', 'twice', 'round', 'lost'), house=HOUSE), False)

    def test_any_place_counts(self):
        last = house(VOX, phone('b'), phone('a', ((), '', '', '', 'a')))
        self.assert_same([is_harmless(last), is_harmless(last, harms=('twice', 'lost', 'barred'))], [False, True])
        first = house(phone('a', ((), '', '', '', 'a')), phone('b'), VOX)
        self.assert_same([is_harmless(first), is_harmless(first, harms=('twice', 'lost', 'barred'))], [False, True])

    def test_beside_all_calls(self):
        for one, told in told_houses(30, 400):
            shown = {harm for rows in told.values() for _, row in rows for harm in row['harms']}
            self.assert_same(is_harmless(one), not shown)
            for k in range(16):
                asked = tuple(harm for j, harm in enumerate(HARMS) if k >> j & 1)
                self.assert_same(is_harmless(one, harms=asked), not shown & {*asked})

    def test_not_usable(self):
        for odd in (*ODD, HOUSE[:2], house(BOB, VOX)):
            self.assert_unusable('house', is_harmless, odd)
            self.assert_unusable('house', is_harmless, odd, harms=None)
        self.assert_each_unusable('harms', NO_TUPLES_OF_HARMS, lambda thing: is_harmless(HOUSE, harms=thing))
        self.assert_each_unusable('harms', NO_TUPLES_OF_HARMS, lambda thing: is_harmless(house(VOX), harms=thing))


class TestEnds(Strict):

    def assert_ends(self, one, name, *wanted, rounds=()):
        """These are the ends; there is a call for each of them, and of these rounds, and for no other one."""
        self.assert_same((name, ends_of(one, name)), (name, wanted))
        for word in WORDS:
            for place in one[2]:
                end = (word, place[1])
                call = end_call(one, name, end)
                self.assert_same((end, call is not None), (end, end in (*wanted, *rounds)))
                if call is not None:
                    self.assertTrue(is_call(one, call))
                    self.assert_same((call[0], tell(one, call)['course'][1]), (name, end))

    def test_of_the_document(self):
        ends = (('answered', 'ann'), ('answered', 'bob'), ('boxed', 'vox'), ('busy', 'bob'), ('off', 'ann'), ('off', 'bob'))
        self.assert_ends(HOUSE, 'ann', *ends, rounds=(('round', 'ann'),))
        self.assert_ends(HOUSE, 'bob', *ends, rounds=(('round', 'bob'),))
        self.assert_ends(HOUSE, 'desk', *ends[:3])
        self.assert_ends(HOUSE, 'vox', ends[2])
        self.assert_same(course_of(HOUSE, end_call(HOUSE, 'ann', ('busy', 'bob'))), (('ann', 'bob'), ('busy', 'bob')))

    def test_of_boxes_and_plain_places(self):
        self.assert_ends(house(VOX, ('box', 'a', 1)), 'vox', ('boxed', 'vox'))
        one = house(phone('a'), group('g', 'a', 'b'), phone('b', ((), '', 'a', 'a', 'a')), group('h', 'a', after='b'))
        plain = (('answered', 'a'), ('busy', 'a'), ('off', 'a'), ('unheard', 'a'))
        self.assert_ends(one, 'a', *plain)
        self.assert_ends(one, 'b', plain[0], ('answered', 'b'), *plain[1:])
        self.assert_ends(one, 'g', plain[0], ('answered', 'b'), ('unheard', 'g'))
        # Behind the group h nobody answers at a.
        self.assert_ends(one, 'h', plain[0], ('answered', 'b'), *plain[1:])
        two = house(phone('a'), group('h', 'a', 'b', after='a'), phone('b'))
        self.assert_ends(two, 'h', ('answered', 'a'), ('answered', 'b'), *plain[1:])

    def test_who_was_busy_does_not_answer_at_a_group(self):
        one = house(phone('a', ((), '', 'g', '', '')), group('g', 'a', 'b'), phone('b'))
        self.assert_ends(
            one, 'a', ('answered', 'a'), ('answered', 'b'), ('off', 'a'), ('unheard', 'a'), ('unheard', 'g'))
        busy = house(phone('c', ((), '', 'a', 'a', 'a')), *one[2])
        self.assert_ends(
            busy, 'c', ('answered', 'a'), ('answered', 'b'), ('answered', 'c'), ('off', 'a'), ('unheard', 'a'), ('unheard', 'g'))
        early = house(phone('a', (tuple(range(24)), 'g', '', '', '')), group('g', 'b', 'a', after='c'), phone('b'), ('box', 'c', 0))
        self.assert_ends(early, 'a', ('answered', 'a'), ('answered', 'b'), ('boxed', 'c'))
        behind = house(*early[2][:1], group('g', 'b', after='h'), phone('b'), group('h', 'b', 'a'))
        self.assert_ends(behind, 'a', ('answered', 'a'), ('answered', 'b'), ('unheard', 'h'))
        twice = house(phone('a'), group('g', 'a', 'b', after='h'), phone('b'), group('h', 'b', 'c'), phone('c'))
        self.assert_ends(twice, 'g', ('answered', 'a'), ('answered', 'b'), ('answered', 'c'), ('unheard', 'h'))

    def test_each_call_goes_round(self):
        one = house(phone('a', (tuple(range(24)), 'g', '', '', '')), group('g', 'b', after='a'), phone('b'))
        self.assert_ends(one, 'a', ('answered', 'b'), rounds=(('round', 'a'),))
        two = house(*(phone(name, (tuple(range(24)), 'ab'[name == 'a'], '', '', '')) for name in 'ab'))
        self.assert_ends(two, 'a', rounds=(('round', 'a'),))
        self.assert_ends(two, 'b', rounds=(('round', 'b'),))

    def test_round_ends(self):
        one = house(
            phone('a', ((), '', 'b', '', '')), phone('b', ((), '', 'c', '', '')), phone('c', ((), '', 'b', '', 'c'), ((), '', 'd', '', '')),
            ('box', 'd', 0))
        rest = [(word, name) for word in ('off', 'unheard') for name in 'abc']
        self.assert_ends(
            one, 'a', *(('answered', name) for name in 'abc'), ('boxed', 'd'), *rest, rounds=(('round', 'b'), ('round', 'c')))

    def test_beside_all_calls(self):
        for one, told in told_houses(60, 41):
            for name, rows in told.items():
                ends = {row['course'][1] for _, row in rows}
                rounds = {end for end in ends if end[0] == 'round'}
                with self.subTest(one=one):
                    self.assert_ends(one, name, *sorted(ends - rounds), rounds=rounds)

    def test_not_usable(self):
        for odd in (*ODD, HOUSE[:2], house(BOB, VOX)):
            self.assert_unusable('house', ends_of, odd, 'ann')
            self.assert_unusable('house', ends_of, odd, None)
            self.assert_unusable('house', end_call, odd, 'ann', ('busy', 'bob'))
            self.assert_unusable('house', end_call, odd, None, None)
        for odd in (*ODD, ANN, HOUSE, 0):
            self.assert_unusable('called', ends_of, HOUSE, odd)
            self.assert_unusable('called', end_call, HOUSE, odd, ('busy', 'bob'))
            self.assert_unusable('called', end_call, HOUSE, odd, None)
        self.assert_each_unusable('end', NO_ENDS, lambda thing: end_call(HOUSE, 'ann', thing))
        self.assert_same(end_call(end=('busy', 'vox'), called='ann', house=HOUSE), None)
        self.assert_same(ends_of(called='vox', house=HOUSE), (('boxed', 'vox'),))


class TestLimits(Strict):

    def test_houses_at_the_limits_beside_some_calls(self):
        for seed in range(8):
            chance = random.Random(seed)
            one = great_house(seed, seed % 3, seed % 4, 0.25 * (seed % 4))
            harms = {place[1]: harms_of(one, place[1]) for place in one[2]}
            ends = {place[1]: ends_of(one, place[1]) for place in one[2]}
            self.assert_same(is_harmless(one), not any(harms.values()))
            for name, found in harms.items():
                for harm in found:
                    self.assertIn(harm, tell(one, harm_call(one, name, harm))['harms'])
                for end in ends[name]:
                    self.assert_same(tell(one, end_call(one, name, end))['course'][1], end)
            for _ in range(1500):
                call = some_call(chance, one)
                told = tell(one, call)
                self.assertLessEqual({*told['harms']}, {*harms[call[0]]})
                if told['course'][1][0] != 'round':
                    self.assertIn(told['course'][1], ends[call[0]])


if __name__ == '__main__':
    unittest.main()
