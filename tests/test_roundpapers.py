"""Points 9 (L1), 35, 38 and 39: papers that tell whether calls go round."""

import unittest

from ledcalls.callchecker import is_call
from ledcalls.numbers import falling_numbers
from ledcalls.rings import can_round
from ledcalls.roundchecker import lets_numbers, lets_round
from ledcalls.roundpapers import round_paper
from oracle import great_house, some_houses, tell, told_houses
from samples import ANN, BOB, HOUSE, ODD, VOX, Strict, group, house, phone


class TestPapers(Strict):

    def assert_accepted(self, one, name):
        """The paper is accepted, and tells what can_round tells."""
        paper = round_paper(one, name)
        self.assert_same(lets_round(one, name, paper), can_round(one, name))
        self.assert_same(paper[0], 'call' if can_round(one, name) else 'numbers')
        self.assertEqual(len(paper), 2)
        if paper[0] == 'call':
            self.assertTrue(is_call(one, paper[1]))
            self.assert_same((paper[1][0], tell(one, paper[1])['course'][1][0]), (name, 'round'))
        else:
            self.assertEqual(len(paper[1]), 24)
            for hour, pairs in enumerate(paper[1]):
                self.assert_same(lets_numbers(one, name, hour, pairs), dict(falling_numbers(one, name, hour))[name])

    def test_of_the_document(self):
        for name in ('ann', 'bob', 'desk', 'vox'):
            self.assert_accepted(HOUSE, name)
        self.assert_same(lets_round(HOUSE, 'desk', round_paper(HOUSE, 'desk')), False)
        self.assert_same(round_paper(house(VOX), 'vox'), ('numbers', ((('vox', 0),),) * 24))

    def test_one_hour_alone(self):
        for hour in (0, 1, 12, 23):
            one = house(
                phone('a', ((hour,), 'b', '', '', '')), phone('b', ((), '', '', '', ''), ((hour,), 'g', '', '', '')),
                group('g', 'c', after='a'), phone('c'))
            for name in 'abg':
                self.assert_accepted(one, name)
                self.assert_same(round_paper(one, name)[1][1], hour)
            self.assert_accepted(one, 'c')

    def test_each_kind_of_lead(self):
        for k in range(3):
            links = [''] * 3
            links[k] = 'a'
            self.assert_accepted(house(phone('a', ((), '', *links)), phone('b', ((), '', *links))), 'a')
            self.assert_accepted(house(phone('a', ((), '', *links)), phone('b', ((), '', *links))), 'b')
        self.assert_accepted(house(group('g', 'a', after='g'), phone('a')), 'g')
        self.assert_accepted(house(group('g', 'a', after='g'), phone('a', ((), '', '', 'g', ''))), 'a')

    def test_a_way_that_does_not_go_round_is_left(self):
        one = house(
            phone('a', ((), '', 'b', 'c', 'vox')), phone('b', ((), '', 'vox', '', '')), phone('c', ((), '', 'b', 'd', 'vox')),
            phone('d', ((), '', 'b', 'vox', 'c')), VOX)
        for name in ('a', 'b', 'c', 'd', 'vox'):
            self.assert_accepted(one, name)

    def test_beside_all_calls(self):
        for one, told in told_houses(40, 380):
            for name, rows in told.items():
                rounds = any(row['course'][1][0] == 'round' for _, row in rows)
                self.assert_same(lets_round(one, name, round_paper(one, name)), rounds)
                self.assert_accepted(one, name)

    def test_some_houses(self):
        for one in some_houses(60, 381):
            for place in one[2]:
                self.assert_accepted(one, place[1])

    def test_houses_at_the_limits(self):
        for seed in range(6):
            one = great_house(seed, seed % 3, seed % 4, 0.2 * (seed % 5))
            for place in one[2]:
                self.assert_accepted(one, place[1])

    def test_not_usable(self):
        for odd in (*ODD, HOUSE[:2], house(BOB, VOX)):
            self.assert_unusable('house', round_paper, odd, 'ann')
            self.assert_unusable('house', round_paper, odd, None)
        self.assert_each_unusable('called', (*ODD, ANN, HOUSE, 0), lambda thing: round_paper(HOUSE, thing))
        self.assert_same(round_paper(called='vox', house=HOUSE)[0], 'numbers')


if __name__ == '__main__':
    unittest.main()
