"""Points 9 (L2), 46, 57 and 58: what is told back by who was rung."""

import unittest

from ledcalls.backs import call_back, ends_back
from ledcalls.callchecker import is_call
from ledcalls.courses import rung_in
from ledcalls.harms import ends_of, harms_of
from oracle import all_told, great_house, some_call, some_houses, tell, tiny_houses, told_houses
from samples import ANN, BOB, CALL, HOUSE, ODD, VOX, Strict, group, house, phone
from slowboard import chance_of

DAY = tuple(range(24))
# None of these is a tuple of names of phones of the document's house.
NO_RUNG = (
    *(odd for odd in ODD if odd not in ((), ('ann',), ('ann', 'bob'))), ('desk',), ('vox',), ('ann', 'vox'), ('ann', 'bob', 'desk'), ['ann'], [],
    'ann', ('nobody',), ('',), (None,), ('ann', None), ('ann', True), (('ann',),), (['ann'],), ('Ann',), ('ann', 'ann '), 0, HOUSE, ANN)


def names_rung(row):
    """Who is rung along a course, place by place."""
    return tuple(name for names in row['rung'] for name in names)


class TestBacks(Strict):

    def assert_ends(self, one, called, rung, *ends, **named):
        """These are the ends, in the order in which they are told; a call fits just if there is one."""
        self.assert_same(ends_back(one, called, rung, **named), ends)
        call = call_back(one, called, rung, **named)
        self.assert_same(call is None, ends == ())
        if call is not None:
            self.assertTrue(is_call(one, call))
            row = tell(one, call)
            self.assert_same((call[0], names_rung(row)), (called, rung))
            self.assertIn(row['course'][1], ends)
            self.assertIn(call[1], [named['hour']] if named.get('hour') is not None else DAY)

    def test_of_the_document(self):
        self.assert_ends(HOUSE, 'ann', ('ann', 'ann'), ('boxed', 'vox'))
        self.assert_ends(HOUSE, 'ann', ('bob',), ('answered', 'bob'), ('round', 'ann'))
        self.assert_ends(HOUSE, 'ann', ('bob', 'ann'))
        self.assert_ends(HOUSE, 'bob', (), ('boxed', 'vox'), ('busy', 'bob'), ('off', 'bob'), hour=0)
        self.assert_ends(HOUSE, 'bob', (), ('busy', 'bob'), ('off', 'bob'), hour=9)
        self.assert_ends(HOUSE, 'vox', ('bob',))
        self.assert_same(ends_back(rung=('bob',), hour=None, called='ann', house=HOUSE), (('answered', 'bob'), ('round', 'ann')))
        self.assert_same(call_back(rung=('bob', 'ann'), hour=9, called='ann', house=HOUSE), None)

    def test_boxes_alone(self):
        one = house(VOX, ('box', 'a', 0))
        self.assert_ends(one, 'a', (), ('boxed', 'a'))
        self.assert_ends(one, 'vox', (), ('boxed', 'vox'), hour=23)

    def test_a_phone_alone(self):
        one = house(phone('a'), phone('b'))
        self.assert_ends(one, 'a', (), ('busy', 'a'), ('off', 'a'))
        self.assert_ends(one, 'a', ('a',), ('answered', 'a'), ('unheard', 'a'))
        for rung in (('b',), ('a', 'a'), ('a', 'b'), ('b', 'a'), ('a',) * 40):
            self.assert_ends(one, 'a', rung)

    def test_led_past_nobody_is_rung(self):
        one = house(phone('a', ((7,), 'b', 'a', '', '')), phone('b'))
        self.assert_ends(one, 'a', (), ('busy', 'b'), ('off', 'b'), hour=7)
        self.assert_ends(one, 'a', ('b',), ('answered', 'b'), ('unheard', 'b'), hour=7)
        self.assert_ends(one, 'a', ('a',), hour=7)
        self.assert_ends(one, 'a', (), ('off', 'a'), ('round', 'a'), hour=6)
        self.assert_ends(one, 'a', ('b',), hour=6)
        self.assert_ends(one, 'a', (), ('busy', 'b'), ('off', 'a'), ('off', 'b'), ('round', 'a'))

    def test_groups_by_turns_and_together(self):
        for way, both in (('turns', False), ('together', True)):
            one = house(phone('a'), phone('b'), phone('c'), group('g', 'a', 'b', 'c', way=way, after='vox'), VOX)
            ends = [('answered', 'a'), ('boxed', 'vox')]
            self.assert_ends(one, 'g', (), ('boxed', 'vox'))
            self.assert_ends(one, 'g', ('a',), *ends)
            self.assert_ends(one, 'g', ('c',), ('answered', 'c'), ('boxed', 'vox'))
            # Behind the first that answers only a group that rings together rings.
            first = [('answered', 'a')] if both else []
            self.assert_ends(one, 'g', ('a', 'b'), *first, ('answered', 'b'), ('boxed', 'vox'))
            second = [('answered', 'a'), ('answered', 'b')] if both else []
            self.assert_ends(one, 'g', ('a', 'b', 'c'), *second, ('answered', 'c'), ('boxed', 'vox'))
            self.assert_ends(one, 'g', ('b', 'a'))
            self.assert_ends(one, 'g', ('c', 'b'))
            self.assert_ends(one, 'g', ('a', 'a'))

    def test_groups_within_groups_ring_each_phone_once(self):
        one = house(phone('a'), phone('b'), group('g', 'h', 'a', way='together'), group('h', 'b', 'a'))
        self.assert_ends(one, 'g', ('b', 'a'), ('answered', 'a'), ('answered', 'b'), ('unheard', 'g'))
        self.assert_ends(one, 'g', ('a', 'b'))
        self.assert_ends(one, 'g', ('b', 'a', 'a'))

    def test_a_standing_is_the_same_all_along(self):
        one = house(phone('a', ((), '', 'g', 'g', '')), phone('b'), group('g', 'a', 'b', after='v'), ('box', 'v', 0))
        # Whoever was unheard is rung again, and whoever was busy is not.
        self.assert_ends(one, 'a', ('a', 'a'), ('boxed', 'v'))
        self.assert_ends(one, 'a', ('a', 'a', 'b'), ('answered', 'b'), ('boxed', 'v'))
        self.assert_ends(one, 'a', ('a', 'b'))
        self.assert_ends(one, 'a', ('b',), ('answered', 'b'), ('boxed', 'v'))
        self.assert_ends(one, 'a', (), ('boxed', 'v'), ('off', 'a'))
        self.assert_ends(one, 'a', ('a',), ('answered', 'a'))
        # From the group it comes to the phone only if that one does not answer.
        two = house(phone('a', ((), '', '', '', 'w')), group('g', 'a', after='a'), ('box', 'w', 0))
        self.assert_ends(two, 'g', ('a', 'a'), ('unheard', 'a'))
        self.assert_ends(two, 'g', (), ('boxed', 'w'), ('busy', 'a'))
        self.assert_ends(two, 'g', ('a',), ('answered', 'a'))

    def test_a_phone_that_led_past_may_have_any_standing(self):
        one = house(phone('a', (DAY, 'g', '', '', '')), group('g', 'a', 'b', way='together', after='h'), group('h', 'a'), phone('b'))
        self.assert_ends(one, 'a', ('a',), ('answered', 'a'))
        self.assert_ends(one, 'a', (), ('unheard', 'h'))
        self.assert_ends(one, 'a', ('a', 'a'), ('unheard', 'h'))
        self.assert_ends(one, 'a', ('a', 'b'), ('answered', 'a'), ('answered', 'b'))
        self.assert_ends(one, 'a', ('a', 'b', 'a'), ('unheard', 'h'))
        self.assert_ends(one, 'a', ('b', 'a'))

    def test_what_goes_round(self):
        one = house(phone('a', ((), '', '', 'b', '')), phone('b', ((), '', 'b', 'a', '')))
        self.assert_ends(one, 'a', ('a', 'b'), ('answered', 'b'), ('round', 'a'))
        self.assert_ends(one, 'a', ('a',), ('answered', 'a'), ('off', 'b'), ('round', 'b'))
        # On and on it rings, but the course ends where it is come to again.
        self.assert_ends(one, 'a', ('a', 'b', 'a'))

    def test_some_setting(self):
        one = house(phone('a', ((), '', 'b', '', ''), ((), '', 'c', '', '')), phone('b'), phone('c'))
        self.assert_ends(one, 'a', ('b',), ('answered', 'b'), ('unheard', 'b'))
        self.assert_ends(one, 'a', ('c',), ('answered', 'c'), ('unheard', 'c'))
        self.assert_ends(one, 'a', ('b', 'c'))

    def test_one_hour_alone(self):
        for hour in (0, 3, 23):
            one = house(phone('a', ((hour,), 'b', 'a', 'a', 'a')), ('box', 'b', 0))
            self.assert_ends(one, 'a', (), ('boxed', 'b'), ('round', 'a'))
            self.assert_ends(one, 'a', (), ('boxed', 'b'), hour=hour)
            two = house(phone('a', ((hour,), 'b', 'a', 'a', 'a')), phone('b'))
            self.assert_ends(two, 'a', ('b',), ('answered', 'b'), ('unheard', 'b'))

    def test_led_past_or_on_to_the_same_place(self):
        one = house(phone('a', ((), '', '', 'v', ''), ((7,), 'v', '', '', '')), ('box', 'v', 0))
        self.assert_ends(one, 'a', ('a',), ('answered', 'a'), ('boxed', 'v'), hour=7)
        self.assert_ends(one, 'a', ('a',), ('answered', 'a'), ('boxed', 'v'), ('unheard', 'a'))
        for hour in (None, 7):
            self.assert_ends(one, 'a', (), ('boxed', 'v'), ('busy', 'a'), ('off', 'a'), hour=hour)
        two = house(phone('a', ((), '', 'v', '', 'v'), ((7,), 'v', '', '', '')), ('box', 'v', 0))
        self.assert_ends(two, 'a', (), ('boxed', 'v'), hour=7)

    def test_other_orders_of_the_same_places(self):
        # By b and c a call comes to the group either way; but only behind c the phone b leads past, and may be rung there.
        c = phone('c', ((), '', '', 'b', ''), ((), '', '', 'd', ''))
        one = house(
            phone('a', ((), '', 'b', '', 'c')), phone('b', ((), '', 'c', '', ''), ((7,), 'd', '', '', '')), c, group('d', 'b', after='b'))
        self.assertIn(('round', 'b'), ends_back(one, 'a', ('c', 'b'), hour=7))
        self.assert_beside(one, all_told(one, (7,)), (7,))

    def test_rung_at_the_group_alone_or_ahead_of_it_too(self):
        one = house(phone('a', ((), '', '', 'g', ''), ((7,), 'g', '', '', '')), group('g', 'a', after='v'), ('box', 'v', 0))
        self.assert_ends(one, 'a', ('a',), ('answered', 'a'), ('boxed', 'v'), hour=7)
        self.assert_ends(one, 'a', ('a', 'a'), ('boxed', 'v'), hour=7)

    def assert_beside(self, one, told, hours):
        """All ends of each rung that is told of, and of some others, beside all calls."""
        for called, rows in told.items():
            for hour in hours:
                found = {(): set()}
                for call, row in rows:
                    if hour in (None, call[1]):
                        found.setdefault(names_rung(row), set()).add(row['course'][1])
                for rung in list(found)[:4]:
                    for other in (rung[::-1], rung[1:], rung[:-1], rung * 2):
                        found.setdefault(other, set())
                for rung, ends in found.items():
                    self.assert_ends(one, called, rung, *sorted(ends), hour=hour)
                if hour is None:
                    twice = any(ends and len(set(rung)) < len(rung) for rung, ends in found.items())
                    self.assert_same('twice' in harms_of(one, called), twice)
                    wide = sorted({end for ends in found.values() for end in ends if end[0] != 'round'})
                    self.assert_same(ends_of(one, called), tuple(wide))

    def test_beside_all_calls_of_tiny_houses(self):
        for one in tiny_houses(45, 570):
            self.assert_beside(one, all_told(one), (None, 0, 1, 2, 3, 4))

    def test_beside_all_calls_of_small_houses(self):
        for one, told in told_houses(30, 571, 140):
            self.assert_beside(one, told, (None, 1, 4))

    def test_houses_at_the_limits_beside_some_calls(self):
        chance = chance_of(572)
        for seed in range(8):
            one = great_house(seed, seed % 3, seed % 4, 0.25 * (seed % 4))
            for _ in range(25):
                call = some_call(chance, one)
                row = tell(one, call)
                rung = names_rung(row)
                self.assertIn(row['course'][1], ends_back(one, call[0], rung))
                self.assertIn(row['course'][1], ends_back(one, call[0], rung, hour=call[1]))
                back = call_back(one, call[0], rung, hour=call[1])
                self.assert_same((back[:2], names_rung(tell(one, back))), (call[:2], rung))
            for rung in ((), ('a',) * 3, tuple('abcdef'), tuple('fedcba') * 200):
                self.assert_same(call_back(one, 'a', rung) is None, ends_back(one, 'a', rung) == ())

    def test_nobody_is_rung_twice_where_that_cannot_happen(self):
        for one in some_houses(25, 573):
            phones = [place[1] for place in one[2] if place[0] == 'phone']
            for place in one[2]:
                if 'twice' not in harms_of(one, place[1]):
                    self.assert_same([ends_back(one, place[1], (name, name)) for name in phones], [()] * len(phones))

    def test_rung_in_tells_what_fits(self):
        self.assert_same(sum(rung_in(HOUSE, CALL), ()), ('bob',))
        self.assertIn(('round', 'ann'), ends_back(HOUSE, 'ann', sum(rung_in(HOUSE, CALL), ()), hour=9))

    def test_not_usable(self):
        for function in (ends_back, call_back):
            for odd in (*ODD, HOUSE[:2], house(BOB, VOX)):
                self.assert_unusable('house', function, odd, 'ann', ('ann',), hour=9)
                self.assert_unusable('house', function, odd, None, None, hour=24)
            for odd in (*ODD, ANN, HOUSE, 0):
                self.assert_unusable('called', function, HOUSE, odd, ('ann',))
                self.assert_unusable('called', function, HOUSE, odd, None, hour=24)
            self.assert_each_unusable('rung', NO_RUNG, lambda thing: function(HOUSE, 'ann', thing))
            self.assert_each_unusable('rung', NO_RUNG, lambda thing: function(HOUSE, 'vox', thing, hour=True))
            odd_hours = [odd for odd in (*ODD, 'ann', (9,)) if odd is not None]
            self.assert_each_unusable('hour', odd_hours, lambda thing: function(HOUSE, 'ann', ('ann',), hour=thing))
            self.assertRaises(TypeError, function, HOUSE, 'ann', ('ann',), 9)


if __name__ == '__main__':
    unittest.main()
