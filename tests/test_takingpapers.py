"""Points 9 (L4), 46, 53 and 54: papers that show that a taking is one of the least."""

import unittest

from ledcalls.housechanges import without_settings
from ledcalls.takingchecker import lets_taking
from ledcalls.takingpapers import taking_paper
from ledcalls.takings import least_taken
from oracle import all_told, great_takings, leaves_all, least_sets, pairs_in, subsets, tell, tiny_houses
from samples import ANN, BOB, HOUSE, KEPT, ODD, VOX, Strict, house, phone

EVE = ('phone', 'eve', 0, 'kept', (((), '', 'sam', '', ''),))
SAM = ('phone', 'sam', 0, 'kept', (((), '', '', '', ''), ((), '', '', 'eve', '')))
PAIR = (KEPT, (), (EVE, SAM))
TAKEN = (('sam', SAM[4][1]),)
PLAIN = ((), '', '', '', '')
# None of these is a set of pairs of the document's house that leaves each phone a setting.
NO_TAKEN = (
    *(odd for odd in ODD if odd != ()), (('ann', ANN[4][0]),), [('bob', BOB[4][0])], [], (('bob', BOB[4][0]), ('bob', BOB[4][1])),
    (('bob', BOB[4][1]),) * 2, ('bob', BOB[4][1]), (('vox', BOB[4][1]),), (('bob', ANN[4][0]),), (['bob', BOB[4][1]],),
    (('bob', ((False, 1), *BOB[4][1][1:])),), (('bob', BOB[4][1]), ('bob', BOB[4][0])), 'bob', HOUSE)


class TestTakingPaper(Strict):

    def assert_accepted(self, one, taken):
        """There is a paper of this taking, of the form that is stated, and it is accepted."""
        paper = taking_paper(one, taken)
        self.assert_same(lets_taking(one, paper), len(taken))
        told, tables, calls = paper
        self.assert_same((told, len(tables), len(calls)), (taken, 24, len(taken)))
        for table in tables:
            self.assert_same([name for name, _ in table], sorted(place[1] for place in one[2]))
        for pair, call in zip(taken, calls):
            less = without_settings(one, tuple(other for other in taken if other != pair))
            self.assert_same(tell(less, call)['course'][1][0], 'round')

    def test_of_the_document(self):
        self.assert_accepted(PAIR, TAKEN)
        self.assert_same([taking_paper(PAIR, ()), taking_paper(taken=(('sam', SAM[4][0]),), house=PAIR)], [None, None])

    def test_nothing_to_take(self):
        self.assert_accepted(house(VOX), ())
        self.assert_accepted(house(phone('a', ((), '', 'vox', '', '')), VOX), ())
        self.assert_same(taking_paper(house(phone('a', PLAIN, ((), '', '', 'vox', '')), VOX), (('a', PLAIN),)), None)

    def test_one_hour_alone(self):
        for hour in (0, 1, 22, 23):
            one = house(phone('a', PLAIN, ((hour,), 'b', '', '', '')), phone('b', ((), '', 'a', '', '')), phone('c', PLAIN))
            self.assert_same(taking_paper(one, ()), None)
            self.assert_accepted(one, (('a', one[2][0][4][1]),))
            self.assert_same(taking_paper(one, (('a', one[2][0][4][1]),))[2][0][1], hour)

    def test_what_need_not_be_taken(self):
        one = house(*PAIR[2], phone('tom', PLAIN, ((), '', 'vox', '', '')), VOX)
        self.assert_accepted(one, TAKEN)
        for more in one[2][2][4]:
            self.assert_same(taking_paper(one, (*TAKEN, ('tom', more))), None)

    def test_beside_all_calls_of_tiny_houses(self):
        seen = {}
        for one in tiny_houses(60, 531):
            told = all_told(one)
            least = least_sets(one, told, pairs_in(one), ('round',))
            for taken in [part for part in subsets(pairs_in(one)) if leaves_all(one, part)]:
                if taken in least:
                    self.assert_accepted(one, taken)
                else:
                    self.assert_same(taking_paper(one, taken), None)
                seen[(taken in least, len(taken))] = True
                self.assert_same(taken in least_taken(one, taken, harms=('round',)), taken in least)
        self.assertLessEqual({(True, 0), (True, 1), (True, 2), (False, 0), (False, 1), (False, 2)}, set(seen))

    def test_a_ring_of_six_phones(self):
        bars = tuple(('a', name) for name in 'abcdef')
        phones = [
            phone(name, *sorted([PLAIN, ((), '', after, '', ''), (tuple(range(12)), 'v', '', 'd' if name == 'a' else 'w', '')]))
            for name, after in zip('abcdef', 'bcdefa')]
        one = house(*phones, VOX, ('box', 'v', 0), ('box', 'w', 1), bars=bars)
        busy = tuple((place[1], place[4][1]) for place in phones)
        # By the hour 12 a leads to d, too: so one of d, e and f is to leave the ring.
        for k, pair in enumerate(busy):
            if k < 3:
                self.assert_same(taking_paper(one, (pair,)), None)
            else:
                self.assert_accepted(one, (pair,))
        self.assert_same(taking_paper(one, busy), None)
        late = ('a', one[2][0][4][2])
        self.assert_accepted(one, tuple(sorted([late, busy[1]])))
        self.assert_same(least_taken(one, tuple(sorted([late, *busy[1:]])), harms=('round',)), tuple(sorted(
            [tuple(sorted([late, busy[1]])), tuple(sorted([late, busy[2]])), *[(pair,) for pair in busy[3:]]])))

    def test_houses_at_the_limits(self):
        many = 0
        for one, given in great_takings(60, 532):
            for taken in least_taken(one, given, harms=('round',))[:4]:
                many += 1
                self.assert_accepted(one, taken)
                for pair in taken[:1]:
                    self.assert_same(taking_paper(one, tuple(other for other in taken if other != pair)), None)
        self.assertGreater(many, 5)

    def test_not_usable(self):
        for odd in (*ODD, HOUSE[:2], house(BOB, VOX)):
            self.assert_unusable('house', taking_paper, odd, ())
            self.assert_unusable('house', taking_paper, odd, None)
        self.assert_each_unusable('taken', NO_TAKEN, lambda thing: taking_paper(HOUSE, thing))


if __name__ == '__main__':
    unittest.main()
