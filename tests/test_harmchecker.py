"""Points 35, 42 and 45: the checker of calls that show a harm."""

import unittest

from ledcalls.harmchecker import lets_harm
from ledcalls.kinds import HARMS
from oracle import some_calls, tell
from samples import ANN, BOB, CALL, HOUSE, ODD, VOX, Strict, house, phone

TWICE = ('ann', 9, CALL[2], ('unheard', 'answers'))
EARLY = ('bob', 1, (ANN[4][0], BOB[4][1]), ('unheard', 'answers'))


class TestHarm(Strict):

    def test_of_the_document(self):
        self.assert_same(lets_harm(HOUSE, 'ann', 'round', CALL), True)
        self.assert_same(lets_harm(HOUSE, 'ann', 'twice', TWICE), True)
        self.assert_same(lets_harm(thing=EARLY, harm='barred', called='bob', house=HOUSE), True)
        self.assert_paper('harm', -1, lets_harm, HOUSE, 'ann', 'twice', CALL)

    def test_call(self):
        odd = (
            *ODD, HOUSE, CALL[:3], list(CALL), (*CALL, ()), ('no', *CALL[1:]), ('ann', True, *CALL[2:]), ('call', CALL),
            (*CALL[:3], ('busy', 'Off')))
        for harm in HARMS:
            for thing in odd:
                self.assert_paper('call', -1, lets_harm, HOUSE, 'ann', harm, thing)
            # It is a call, but to another place.
            for name in ('bob', 'desk', 'vox'):
                self.assert_paper('call', -1, lets_harm, HOUSE, name, harm, CALL)

    def test_harm(self):
        for call, shown in ((CALL, 'round'), (TWICE, 'twice'), (EARLY, 'barred')):
            for harm in HARMS:
                if harm != shown:
                    self.assert_paper('harm', -1, lets_harm, HOUSE, call[0], harm, call)
        lost = house(phone('a', ((9,), 'b', '', '', '')), phone('b'))
        call = ('a', 9, (lost[2][0][4][0], lost[2][1][4][0]), ('answers', 'off'))
        self.assert_same(lets_harm(lost, 'a', 'lost', call), True)
        self.assert_paper('harm', -1, lets_harm, lost, 'a', 'lost', (*call[:3], ('off', 'off')))

    def test_beside_the_oracle(self):
        for one, call in some_calls(150, 5, 42):
            shown = tell(one, call)['harms']
            for harm in HARMS:
                if harm in shown:
                    self.assert_same(lets_harm(one, call[0], harm, call), True)
                else:
                    self.assert_paper('harm', -1, lets_harm, one, call[0], harm, call)

    def test_not_usable(self):
        for odd in (*ODD, HOUSE[:2], house(BOB, VOX)):
            self.assert_unusable('house', lets_harm, odd, 'ann', 'round', CALL)
            self.assert_unusable('house', lets_harm, odd, None, None, None)
        for odd in (*ODD, ANN, HOUSE, 0):
            self.assert_unusable('called', lets_harm, HOUSE, odd, 'round', CALL)
            self.assert_unusable('called', lets_harm, HOUSE, odd, None, None)
        for odd in (*ODD, 'Round', 'busy', ('round',), ['round'], HARMS, 0):
            self.assert_unusable('harm', lets_harm, HOUSE, 'ann', odd, CALL)
            self.assert_unusable('harm', lets_harm, HOUSE, 'ann', odd, None)


if __name__ == '__main__':
    unittest.main()
