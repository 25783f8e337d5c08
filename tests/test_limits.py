"""Points 7, 9 (L2, L3), 46 to 49 and 51: the most hops, and the limits that cut calls."""

import random
import unittest

from ledcalls.callchecker import is_call
from ledcalls.courses import is_cut
from ledcalls.limits import cut_call, least_limit, longest_call, most_hops, sure_limit, uncut_call
from ledcalls.rings import rings_of
from oracle import great_house, some_call, some_houses, tell, told_houses
from samples import ANN, BOB, HOUSE, KEPT, ODD, VOX, Strict, group, house, phone

LOST = ('lost', 'lost')
EDGES = (KEPT, ('kept', 'lost'), ('lost', 'kept'), LOST)
DAY = tuple(range(24))
# None of these is a limit.
NO_LIMITS = (*(odd for odd in ODD if odd != 24 and odd != 10 ** 59), -10 ** 60 + 1, (0,), 'ann', [0], HOUSE)


def busy(name, target, side=0):
    """A phone that leads on when busy."""
    return phone(name, ((), '', target, '', ''), side=side)


def past(name, target, side=0):
    """A phone that leads past at any hour."""
    return phone(name, (DAY, target, '', '', ''), side=side)


class TestHops(Strict):

    def assert_hops(self, one, **wanted):
        """So many hops has the longest call to each of these places."""
        for name, hops in wanted.items():
            self.assert_same((name, most_hops(one, name)), (name, hops))
            call = longest_call(one, name)
            self.assert_same(call is None, hops is None)
            if hops is not None:
                self.assertTrue(is_call(one, call))
                names, end = tell(one, call)['course']
                self.assert_same([call[0], len(names) - 1, end[0] == 'round'], [name, hops, False])

    def test_of_the_document(self):
        self.assert_hops(HOUSE, ann=2, bob=3, desk=1, vox=0)

    def test_places_alone(self):
        self.assert_hops(house(VOX, ('box', 'a', 1), phone('b'), group('g', 'b')), vox=0, a=0, b=0, g=0)

    def test_each_call_goes_round(self):
        self.assert_hops(house(past('a', 'b'), past('b', 'a'), past('c', 'b'), VOX), a=None, b=None, c=None, vox=0)
        self.assert_hops(house(past('a', 'a'), phone('b', (DAY, 'a', '', '', ''), (DAY, 'c', '', '', '')), ('box', 'c', 0)), a=None, b=1)

    def test_in_some_hour(self):
        one = house(phone('a', ((22,), 'b', '', '', '')), phone('b', ((22, 23), 'c', '', '', '')), ('box', 'c', 0))
        self.assert_hops(one, a=2, b=1, c=0)
        self.assert_same(longest_call(one, 'a')[1], 22)
        other = house(phone('a', ((22,), 'b', '', '', '')), phone('b', ((23,), 'c', '', '', '')), ('box', 'c', 0))
        self.assert_hops(other, a=1, b=1)

    def test_no_good_call_is_needed(self):
        self.assert_hops(house(busy('a', 'g'), group('g', 'a', after='c'), busy('c', '')), a=2, g=1)

    def test_places_are_come_to_once(self):
        one = house(*(busy(name, after) for name, after in zip('abcd', 'bcda')), busy('e', 'a'))
        self.assert_hops(one, a=3, b=3, c=3, d=3, e=4)

    def test_beside_all_calls(self):
        for one, told in told_houses(60, 47):
            wanted = {}
            for name, rows in told.items():
                hops = [len(row['course'][0]) - 1 for _, row in rows if row['course'][1][0] != 'round']
                wanted[name] = max(hops) if hops else None
            with self.subTest(one=one):
                self.assert_hops(one, **wanted)

    def test_not_usable(self):
        for function in (most_hops, longest_call):
            for odd in (*ODD, HOUSE[:2], house(BOB, VOX)):
                self.assert_unusable('house', function, odd, 'ann')
                self.assert_unusable('house', function, odd, None)
            self.assert_each_unusable('called', (*ODD, ANN, HOUSE, 0), lambda thing: function(HOUSE, thing))
        self.assert_same(most_hops(called='vox', house=HOUSE), 0)
        self.assert_same(longest_call(called='vox', house=HOUSE)[0], 'vox')


class TestLimits(Strict):

    def assert_limits(self, one, least, sure, least_uncut):
        """These are the limits; the least one that does not cut each call that goes round comes last."""
        self.assert_same((least_limit(one), sure_limit(one)), (least, sure))
        for limit in (0, 1, 2, 3, 4, 5, 6, 7, 8, 9, 10 ** 59, 10 ** 60 - 1):
            call = cut_call(one, limit)
            self.assert_same((limit, call is not None), (limit, limit < least))
            if call is not None:
                told = tell(one, call)
                self.assertTrue(is_call(one, call) and told['good'] and max(told['counts']) >= limit)
                self.assert_same(is_cut(one, call, limit), True)
            call = uncut_call(one, limit)
            self.assert_same((limit, call is not None), (limit, least_uncut is not None and limit >= least_uncut))
            if call is not None:
                told = tell(one, call)
                self.assertTrue(is_call(one, call) and told['course'][1][0] == 'round')
                # The counts of sixty hops tell of all: no house here has more than eight places.
                self.assertLess(max(told['ever']), limit)
                self.assert_same(is_cut(one, call, limit), False)

    def test_of_the_document(self):
        self.assert_limits(HOUSE, 3, None, 2)
        self.assert_limits((KEPT, *HOUSE[1:]), 3, 3, None)
        self.assert_limits((('lost', 'kept'), *HOUSE[1:]), 2, None, 2)
        self.assert_limits((LOST, *HOUSE[1:]), 2, None, 1)

    def test_no_hops(self):
        self.assert_limits(house(VOX), 0, 0, None)
        self.assert_limits(house(phone('a'), group('g', 'a'), VOX), 0, 0, None)
        # The one call that hops is not good.
        self.assert_limits(house(past('a', 'b'), past('b', 'b')), 0, 0, None)

    def test_all_calls_are_good(self):
        one = house(past('a', 'b', 1), past('b', 'c', 1), past('c', 'd'), ('box', 'd', 0))
        for border, least in zip(EDGES, (3, 3, 2, 2)):
            self.assert_limits((border, *one[1:]), least, least, None)

    def test_a_count_that_is_lost_ahead(self):
        # The call from b begins where the count of the call from a begins again.
        one = house(busy('a', 'b', 1), busy('b', 'c'), busy('c', 'd'), busy('d', 'vox'), VOX)
        for border, least in zip(EDGES, (4, 4, 3, 3)):
            self.assert_limits((border, *one[1:]), least, least, None)

    def test_rings_within_a_side(self):
        one = house(busy('a', 'b', 1), busy('b', 'a', 1), busy('c', 'a'))
        for border in EDGES:
            # On the way to the ring a count may be lost, on the ring none is.
            least = 1 if border[1] == 'lost' else 2
            self.assert_limits((border, *one[1:]), least, least, None)

    def test_rings_over_the_border(self):
        one = house(busy('a', 'b'), busy('b', 'c', 1), busy('c', 'a', 1))
        # Three hops lie between two losses on one side; on both sides two hops, as many as good calls have.
        self.assert_limits((KEPT, *one[1:]), 2, 2, None)
        self.assert_limits((('lost', 'kept'), *one[1:]), 2, 2, 3)
        self.assert_limits((('kept', 'lost'), *one[1:]), 2, 2, 3)
        self.assert_limits((LOST, *one[1:]), 2, None, 2)

    def test_a_ring_that_is_cut_where_good_calls_are_not(self):
        ring = (past('a', 'b'), past('b', 'c', 1), past('c', 'd', 1), past('d', 'a', 1))
        good = (past('e', 'f'), ('box', 'f', 0))
        one = (('lost', 'lost'), (), (*ring, *good))
        # All that goes round is cut by the limits up to 2; what is good is cut by 0 alone.
        self.assert_limits(one, 1, 1, 3)
        self.assert_limits((('lost', 'kept'), *one[1:]), 1, 1, 4)
        self.assert_limits((KEPT, *one[1:]), 1, 1, None)

    def test_the_least_of_several_rings(self):
        one = house(
            past('a', 'b'), past('b', 'a', 1), past('c', 'd'), past('d', 'e', 1), past('e', 'c', 1), past('f', 'f'),
            border=('lost', 'kept'))
        self.assert_limits(one, 0, 0, 2)
        two = house(*one[2][2:], border=('lost', 'kept'))
        self.assert_limits(two, 0, 0, 3)
        three = house(past('g', 'vox'), VOX, *one[2], border=('kept', 'lost'))
        self.assert_limits(three, 1, 1, 2)

    def test_in_some_hour(self):
        one = house(
            phone('a', ((7,), 'b', '', '', '')), phone('b', ((7, 8), 'c', '', '', ''), side=1), phone('c', ((8,), 'b', '', '', '')),
            ('box', 'd', 0), border=LOST)
        self.assert_limits(one, 1, None, 1)
        self.assert_same([uncut_call(one, 1)[1], cut_call(one, 0)[1] in (7, 8)], [8, True])

    def test_places_that_are_on_the_course_answer_nowhere_else(self):
        one = house(busy('a', 'g'), group('g', 'a', after='c'), past('c', 'd'), group('d', 'a'))
        # From c a call comes to d, and a answers; behind a and g nobody does.
        self.assert_limits(one, 1, 1, None)

    def test_beside_all_calls(self):
        seen = {}
        for one, told in told_houses(70, 48):
            rows = [row for row_list in told.values() for _, row in row_list]
            least = max([0, *[max(row['counts']) + 1 for row in rows if row['good'] and row['counts']]])
            most = [max(row['ever']) for row in rows if row['course'][1][0] == 'round']
            uncut = min([count + 1 for count in most if count < 40], default=None)
            sure = None if uncut is not None and uncut <= least else least
            with self.subTest(one=one):
                self.assert_limits(one, least, sure, uncut)
            seen[(sure is None, uncut is None)] = True
        self.assertEqual(len(seen), 3)

    def test_consequences(self):
        for one in some_houses(60, 51):
            least, many = least_limit(one), len(one[2])
            self.assertLess(least, many)
            for place in one[2]:
                self.assertLess(most_hops(one, place[1]) or 0, many)
            sides = {place[1]: place[2] for place in one[2]}
            within = all(len({sides[name] for name, _, _ in ring}) == 1 for hour in range(5) for ring in rings_of(one, hour))
            if one[0] == KEPT or within:
                self.assert_same(sure_limit(one), least)
            self.assert_same(sure_limit(one), least if uncut_call(one, least) is None else None)

    def test_houses_at_the_limits_beside_some_calls(self):
        for seed in range(8):
            chance = random.Random(seed)
            one = great_house(seed, seed % 3, seed % 4, 0.25 * (seed % 4))
            hops = {place[1]: most_hops(one, place[1]) for place in one[2]}
            least, sure = least_limit(one), sure_limit(one)
            self.assert_same(sure in (None, least), True)
            if least:
                self.assert_same(is_cut(one, cut_call(one, least - 1), least - 1), True)
            if sure is None:
                self.assert_same(is_cut(one, uncut_call(one, least), least), False)
            for name, many in hops.items():
                call = longest_call(one, name)
                self.assert_same(len(tell(one, call)['course'][0]) - 1 if call else None, many)
            for _ in range(1500):
                call = some_call(chance, one)
                told = tell(one, call)
                if told['course'][1][0] != 'round':
                    self.assertLessEqual(len(told['course'][0]) - 1, hops[call[0]])
                if told['good']:
                    self.assertLess(max([*told['counts'], -1]), least)
                if told['course'][1][0] == 'round' and sure is not None:
                    self.assertGreaterEqual(max(told['ever']), sure)

    def test_not_usable(self):
        for function in (least_limit, sure_limit):
            self.assert_each_unusable('house', (*ODD, HOUSE[:2], house(BOB, VOX)), function)
            self.assert_same(function(house=house(VOX)), 0)
        for function in (cut_call, uncut_call):
            for odd in (*ODD, HOUSE[:2], house(BOB, VOX)):
                self.assert_unusable('house', function, odd, 3)
                self.assert_unusable('house', function, odd, None)
            self.assert_each_unusable('limit', NO_LIMITS, lambda thing: function(HOUSE, thing))
        self.assert_same([cut_call(limit=3, house=HOUSE), uncut_call(limit=1, house=HOUSE)], [None, None])


if __name__ == '__main__':
    unittest.main()
