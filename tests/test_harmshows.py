"""Points 6, 23 and 28: the harms that a call shows."""

import unittest

from ledcalls.harmshows import harms_shown
from oracle import some_calls, tell
from samples import CALL, HOUSE, KEPT, ODD, VOX, Strict, group, house, phone

PLAIN = ((), '', '', '', '')


def call_to(one, called, *standings, hour=9):
    """Return a call with the first setting of each phone."""
    return (called, hour, tuple(place[4][0] for place in one[2] if place[0] == 'phone'), standings)


class TestHarms(Strict):

    def assert_harms(self, one, call, *harms):
        with self.subTest(call=call):
            self.assert_same(harms_shown(one, call), harms)

    def test_round(self):
        one = house(phone('a', ((), '', 'b', '', '')), phone('b', ((), '', 'a', '', '')))
        self.assert_harms(one, call_to(one, 'a', 'busy', 'busy'), 'round')
        self.assert_harms(one, call_to(one, 'a', 'busy', 'off'))

    def test_twice(self):
        one = house(phone('a', ((), '', '', 'g', '')), phone('b'), group('g', 'b', 'a'), group('h', 'b', after='g'))
        self.assert_harms(one, call_to(one, 'a', 'unheard', 'unheard'), 'twice')
        # By turns the group rings b alone, who answers.
        self.assert_harms(one, call_to(one, 'a', 'unheard', 'answers'))
        self.assert_harms(one, call_to(one, 'h', 'answers', 'unheard'), 'twice')
        self.assert_harms(one, call_to(one, 'h', 'unheard', 'busy'))
        together = house(*one[2][:2], (*one[2][2][:4], 'together', *one[2][2][5:]))
        self.assert_harms(together, call_to(together, 'a', 'unheard', 'answers'), 'twice')

    def test_led_past_is_not_rung(self):
        one = house(phone('a', ((9,), 'g', '', '', '')), group('g', 'a', after='b'), phone('b', ((), '', 'a', '', '')))
        self.assert_harms(one, call_to(one, 'a', 'answers', 'off'))
        self.assert_harms(one, call_to(one, 'a', 'unheard', 'busy'), 'round')
        self.assert_harms(one, call_to(one, 'a', 'unheard', 'off'))

    def test_lost(self):
        one = house(phone('a', ((9,), 'b', '', '', '')), phone('b', ((), '', '', 'vox', '')), VOX, group('g', 'b'),
                    phone('c', ((9,), 'g', '', '', '')), phone('d', ((9,), 'a', '', '', '')))
        for standing in ('busy', 'off'):
            self.assert_harms(one, call_to(one, 'a', 'answers', standing, 'off', 'off'), 'lost')
            self.assert_harms(one, call_to(one, 'a', 'unheard', standing, 'answers', 'answers'))
            self.assert_harms(one, call_to(one, 'a', 'answers', standing, 'off', 'off', hour=8))
            self.assert_harms(one, call_to(one, 'd', 'off', standing, 'off', 'answers'), 'lost')
            self.assert_harms(one, call_to(one, 'd', 'answers', standing, 'off', 'off'), 'lost')
        self.assert_harms(one, call_to(one, 'a', 'answers', 'answers', 'off', 'off'))
        self.assert_harms(one, call_to(one, 'a', 'answers', 'unheard', 'off', 'off'))
        self.assert_harms(one, call_to(one, 'c', 'answers', 'unheard', 'answers', 'off'), 'lost')
        self.assert_harms(one, call_to(one, 'g', 'answers', 'unheard', 'answers', 'off'))

    def test_lost_is_not_shown_by_what_goes_round(self):
        one = house(phone('a', ((9,), 'b', '', '', '')), phone('b', ((), '', 'a', '', '')))
        self.assert_harms(one, call_to(one, 'a', 'answers', 'busy'), 'round')
        self.assert_harms(one, call_to(one, 'a', 'answers', 'off'), 'lost')

    def test_barred(self):
        places = (phone('a', ((), '', 'b', 'g', '')), phone('b', ((), '', '', 'vox', '')), VOX,
                  group('g', 'b', 'c', way='together'), phone('c'))
        bars = (('a', 'b'), ('a', 'vox'), ('b', 'a'), ('c', 'c'), ('g', 'c'), ('g', 'vox'), ('vox', 'vox'))
        one = (KEPT, bars, places)
        self.assert_harms(one, call_to(one, 'a', 'busy', 'answers', 'off'), 'barred')
        self.assert_harms(one, call_to(one, 'a', 'busy', 'unheard', 'off'), 'barred')
        self.assert_harms(one, call_to(one, 'a', 'busy', 'busy', 'off'))
        self.assert_harms(one, call_to(one, 'a', 'unheard', 'off', 'answers'))
        self.assert_harms(one, call_to(one, 'a', 'unheard', 'unheard', 'answers'), 'barred')
        self.assert_harms(one, call_to(one, 'b', 'unheard', 'unheard', 'answers'))
        self.assert_harms(one, call_to(one, 'c', 'off', 'off', 'unheard'), 'barred')
        self.assert_harms(one, call_to(one, 'c', 'off', 'off', 'busy'))
        self.assert_harms(one, call_to(one, 'g', 'off', 'answers', 'unheard'), 'barred')
        self.assert_harms(one, call_to(one, 'g', 'off', 'answers', 'busy'))
        self.assert_harms(one, call_to(one, 'vox', 'off', 'off', 'off'), 'barred')
        past = (KEPT, (('a', 'a'),), (phone('a', ((9,), 'vox', '', '', '')), VOX))
        self.assert_harms(past, call_to(past, 'a', 'answers'))
        self.assert_harms(past, call_to(past, 'a', 'answers', hour=8), 'barred')
        boxed = (KEPT, (('a', 'vox'),), past[2])
        self.assert_harms(boxed, call_to(boxed, 'a', 'answers'), 'barred')

    def test_several_harms(self):
        one = (KEPT, (('a', 'a'),), (phone('a', ((), '', '', 'g', '')), group('g', 'a', after='a')))
        self.assert_harms(one, call_to(one, 'a', 'unheard'), 'barred', 'round', 'twice')
        two = (KEPT, (('a', 'b'),), (
            phone('a', ((9,), 'b', '', '', '')), phone('b', ((), '', '', 'g', '')), group('g', 'b')))
        self.assert_harms(two, call_to(two, 'a', 'answers', 'unheard'), 'barred', 'lost', 'twice')

    def test_beside_the_oracle(self):
        shown = {}
        for one, call in some_calls(300, 6, 28):
            wanted = tell(one, call)['harms']
            self.assert_same((one, call, harms_shown(one, call)), (one, call, wanted))
            shown.update(dict.fromkeys(wanted))
        self.assertEqual(sorted(shown), ['barred', 'lost', 'round', 'twice'])

    def test_not_usable(self):
        for odd in (*ODD, HOUSE[:2]):
            self.assert_unusable('house', harms_shown, odd, None)
            self.assert_unusable('house', harms_shown, odd, CALL)
        odd = (*ODD, HOUSE, CALL[:3], ('ann', True, *CALL[2:]), (*CALL[:3], ('busy', 'Off')))
        self.assert_each_unusable('call', odd, lambda thing: harms_shown(HOUSE, thing))
        self.assert_same(harms_shown(call=CALL, house=HOUSE), ('round',))


if __name__ == '__main__':
    unittest.main()
