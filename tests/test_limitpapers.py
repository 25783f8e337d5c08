"""Points 9 (L3), 46, 50 and 51: papers that show that no limit is sure."""

import unittest

from ledcalls.courses import counts_in, is_cut, is_good
from ledcalls.limitchecker import lets_unsure
from ledcalls.limitpapers import unsure_paper
from ledcalls.limits import cut_call, least_limit, most_hops, sure_limit, uncut_call
from oracle import all_told, great_house, some_houses, tell, tiny_houses, told_houses
from samples import BOB, HOUSE, KEPT, ODD, VOX, Strict, group, house, phone

LOST = ('lost', 'lost')
EDGES = (KEPT, ('kept', 'lost'), ('lost', 'kept'), LOST)
DAY = tuple(range(24))


def past(name, target, side=0):
    """A phone that leads past at any hour."""
    return phone(name, (DAY, target, '', '', ''), side=side)


class TestUnsurePaper(Strict):

    def assert_paper_of(self, one):
        """There is a paper just if no limit is sure; it is accepted."""
        paper = unsure_paper(one)
        self.assert_same(paper is None, sure_limit(one) is not None)
        if paper is not None:
            word, good, going = paper
            limit = lets_unsure(one, paper)
            self.assert_same((word, limit), ('unsure', least_limit(one)))
            self.assertTrue(tell(one, good)['good'])
            self.assert_same((max(tell(one, good)['counts']) + 1, tell(one, going)['course'][1][0]), (limit, 'round'))
            self.assertLess(max(tell(one, going)['ever']), limit)
        return paper is not None

    def test_of_the_document(self):
        self.assertTrue(self.assert_paper_of(HOUSE))
        self.assert_same(lets_unsure(HOUSE, unsure_paper(HOUSE)), 3)
        self.assertFalse(self.assert_paper_of((KEPT, *HOUSE[1:])))

    def test_no_hops_no_rings(self):
        self.assert_same(unsure_paper(house=house(VOX)), None)
        self.assert_same(unsure_paper(house(phone('a'), group('g', 'a'), VOX)), None)
        self.assert_same(unsure_paper(house(past('a', 'vox'), VOX, border=LOST)), None)
        # Each limit but 0 lets the ring be, but 0 cuts no good call, as none hops.
        self.assert_same(unsure_paper(house(past('a', 'b'), past('b', 'a', 1), border=LOST)), None)

    def test_counts_lost_on_one_side_on_both_and_on_none(self):
        two = (past('a', 'b'), past('b', 'a', 1), past('c', 'vox', 1), VOX)
        # The ring has two hops: the count is at most 1 on it, 0 if both sides lose it.
        for border, wanted in zip(EDGES, (False, False, False, True)):
            self.assert_same(self.assert_paper_of(house(*two, border=border)), wanted)
        more = (*two, past('d', 'c', 1))
        for border, wanted in zip(EDGES, (False, True, True, True)):
            self.assert_same(self.assert_paper_of(house(*more, border=border)), wanted)
        ring_on_a_side = (past('a', 'b', 1), past('b', 'a', 1), past('c', 'vox', 1), VOX, past('d', 'c', 1))
        for border in EDGES:
            self.assert_same(self.assert_paper_of(house(*ring_on_a_side, border=border)), False)

    def test_beside_all_calls(self):
        seen = {}
        for one, told in told_houses(60, 510):
            rows = [row for row_list in told.values() for _, row in row_list]
            limit = max([0, *[max(row['counts']) + 1 for row in rows if row['good'] and row['counts']]])
            uncut = any(max(row['ever']) < limit for row in rows if row['course'][1][0] == 'round')
            self.assert_same(self.assert_paper_of(one), uncut)
            seen[uncut] = True
        self.assertEqual(len(seen), 2)

    def test_tiny_and_some_and_great_houses(self):
        found = [self.assert_paper_of(one) for one in (*tiny_houses(80, 511), *some_houses(60, 512))]
        self.assertTrue(20 < sum(found) < len(found) - 20)
        for seed in range(8):
            self.assert_paper_of(great_house(seed, seed % 3, seed % 4, 0.25 * (seed % 4)))

    def test_not_usable(self):
        self.assert_each_unusable('house', (*ODD, HOUSE[:2], house(BOB, VOX)), unsure_paper)


class TestConsequences(Strict):

    def test_limits_from_0_on_beside_all_calls(self):
        for one in (HOUSE, *tiny_houses(14, 513)):
            for border in EDGES:
                self.assert_limits((border, *one[1:]))

    def assert_limits(self, one):
        """What each limit cuts, beside all calls."""
        told = [pair for rows in all_told(one).values() for pair in rows]
        goods = [row['counts'] for _, row in told if row['good']]
        rounds = [row['ever'] for _, row in told if row['course'][1][0] == 'round']
        fit = []
        for limit in range(len(one[2]) + 3):
            cuts_good = any(count >= limit for counts in goods for count in counts)
            cuts_rounds = all(max(ever) >= limit for ever in rounds)
            self.assert_same(cut_call(one, limit) is not None, cuts_good)
            self.assert_same(uncut_call(one, limit) is None, cuts_rounds)
            self.assert_same(limit >= least_limit(one), not cuts_good)
            if not cuts_good and cuts_rounds:
                fit.append(limit)
        sure = sure_limit(one)
        self.assert_same(sure, fit[0] if fit else None)
        if sure is not None:
            # They are all from it up to one less than the least for which a call that goes round is not cut.
            first = [limit for limit in range(30) if uncut_call(one, limit) is not None][:1]
            self.assert_same(fit, list(range(sure, first[0] if first else len(one[2]) + 3)))

    def test_calls_are_cut_as_told(self):
        for one in tiny_houses(10, 514):
            for limit in range(4):
                good, going = cut_call(one, limit), uncut_call(one, limit)
                if good is not None:
                    self.assert_same([is_good(one, good), is_cut(one, good, limit), max(counts_in(one, good)) >= limit], [True] * 3)
                if going is not None:
                    self.assert_same(is_cut(one, going, limit), False)

    def test_numbers_are_less_than_the_number_of_places(self):
        for one in (*tiny_houses(40, 515), *some_houses(30, 516)):
            self.assertLess(least_limit(one), len(one[2]))
            for place in one[2]:
                self.assertLess(most_hops(one, place[1]) or 0, len(one[2]))
            if one[0] == KEPT:
                self.assert_same([unsure_paper(one), sure_limit(one)], [None, least_limit(one)])


if __name__ == '__main__':
    unittest.main()
