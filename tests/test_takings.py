"""Points 9 (L4), 46, 52 and 54: settings that are taken out, so that harms cannot happen."""

import unittest
from itertools import combinations, permutations

from ledcalls.harms import harms_of, is_harmless
from ledcalls.housechanges import without_settings
from ledcalls.kinds import HARMS
from ledcalls.takings import greatest_left, least_taken
from oracle import all_told, great_takings, leaves_all, least_sets, pairs_in, subsets, tiny_houses
from samples import ANN, BOB, HOUSE, ODD, VOX, Strict, group, house, phone

EVE = ('phone', 'eve', 0, 'kept', (((), '', 'sam', '', ''),))
SAM = ('phone', 'sam', 0, 'kept', (((), '', '', '', ''), ((), '', '', 'eve', '')))
PAIR = (('kept', 'kept'), (), (EVE, SAM))
GIVEN = (('sam', SAM[4][0]), ('sam', SAM[4][1]))
PLAIN = ((), '', '', '', '')
# All tuples of one or two harms in both orders, and of all four.
ASKED = [(harm,) for harm in HARMS] + list(combinations(HARMS, 2)) + [HARMS[::-1][:2], HARMS, HARMS[::-1]]
# None of these is a set of pairs of a phone of the document's house and one of its settings.
NO_GIVEN = (
    *(odd for odd in ODD if odd != ()), (('ann', BOB[4][0]),), (('bob', BOB[4][1]), ('bob', BOB[4][0])), (('bob', BOB[4][0]),) * 2,
    [('bob', BOB[4][0])], (['bob', BOB[4][0]],), ('bob', BOB[4][0]), (('bob',),), (('bob', BOB[4][0], BOB[4][1]),), (('desk', BOB[4][0]),),
    (('vox', BOB[4][0]),), (('eve', PLAIN),), (('bob', ((0, True), *BOB[4][1][1:])),), (('bob', ((False, 1), *BOB[4][1][1:])),),
    (('bob', list(BOB[4][0])),), (('bob', ([], '', '', 'ann', '')),), (('ann', ANN[4]),), (('ann', None),), ((None, ANN[4][0]),),
    ((['ann'], ANN[4][0]),), (('bob', BOB[4][0]), None), ANN, HOUSE, 'bob')
NO_HARMS = (
    *(odd for odd in ODD if odd != ()), ('lost', 'lost'), ('round', 'twice', 'round'), ['lost'], [], ('lost', None), ('lost', True), (('lost',),),
    ('lost', 'busy'), ('',), 'lost', 'round', {'lost': True}, ('Lost',), (['lost'],), 0, {'lost'})


def choosing(name, *settings):
    """A phone that has these settings, in whatever order they are told."""
    return phone(name, *sorted(settings))


class TestTakings(Strict):

    def assert_least(self, one, given, wanted, **named):
        """These are the least sets, and what stays without each of them are the greatest ones."""
        self.assert_same(least_taken(one, given, **named), wanted)
        left = tuple(sorted(tuple(pair for pair in given if pair not in taken) for taken in wanted))
        self.assert_same(greatest_left(one, given, **named), left)

    def test_of_the_document(self):
        self.assert_least(PAIR, GIVEN, (GIVEN[1:],))
        self.assert_same(greatest_left(PAIR, GIVEN), (GIVEN[:1],))
        self.assert_least(PAIR, GIVEN[:1], ())
        self.assert_least(PAIR, (), ((),), harms=('twice',))
        self.assert_same(least_taken(harms=('twice',), given=(), house=PAIR), ((),))
        self.assert_same(greatest_left(harms=('round',), given=GIVEN, house=PAIR), (GIVEN[:1],))

    def test_no_harms_are_asked_for(self):
        for one in (HOUSE, PAIR, *tiny_houses(10, 520)):
            self.assert_least(one, pairs_in(one), ((),), harms=())
            self.assert_same(greatest_left(one, pairs_in(one), harms=()), (pairs_in(one),))

    def test_nothing_is_given(self):
        self.assert_least(HOUSE, (), ())
        self.assert_least(HOUSE, (), ((),), harms=('lost',))
        self.assert_least(house(VOX), (), ((),))
        self.assert_least(house(VOX, bars=(('vox', 'vox'),)), (), ())

    def test_all_settings_of_a_phone_are_given(self):
        # The harm is gone only if all settings of the phone are: so it cannot be taken out.
        one = house(choosing('a', ((), '', 'a', '', ''), ((), '', '', 'a', '')))
        self.assert_least(one, pairs_in(one), ())
        two = house(choosing('a', PLAIN, ((), '', '', 'a', ''), ((), '', 'a', '', '')))
        self.assert_least(two, pairs_in(two), (pairs_in(two)[1:],))
        self.assert_same(greatest_left(two, pairs_in(two)), (pairs_in(two)[:1],))

    def test_several_least_sets(self):
        # The ring has three phones, each of which may leave it.
        ring = [phone(name, PLAIN, ((), '', '', after, '')) for name, after in zip('abc', 'bca')]
        one = house(*ring)
        given = pairs_in(one)
        leaving = tuple((pair,) for pair in given if pair[1] != PLAIN)
        self.assert_least(one, given, leaving, harms=('round',))
        self.assert_same(greatest_left(one, given, harms=('round',)), tuple(sorted(
            tuple(pair for pair in given if pair != taken) for taken, in leaving)))
        self.assert_least(one, given[2:], leaving[1:], harms=('round',))
        self.assert_least(one, given[:2], leaving[:1], harms=('round',))

    def test_least_sets_of_several_sizes(self):
        # Both rings go by a; b and c can leave them, each its own.
        one = house(
            phone('a', PLAIN, ((), '', 'b', 'c', '')), phone('b', PLAIN, ((), '', '', 'a', '')), phone('c', PLAIN, ((), '', '', 'a', '')))
        given = tuple(pair for pair in pairs_in(one) if pair[1] != PLAIN)
        self.assert_least(one, given, (given[:1], given[1:]), harms=('round',))
        self.assert_same(greatest_left(one, given, harms=('round',)), (given[:1], given[1:]))
        self.assert_least(one, given[1:], (given[1:],), harms=('round',))

    def test_what_includes_another_one_of_several_is_not_least(self):
        # One ring goes by all three phones, one by b and c alone.
        one = house(
            phone('a', PLAIN, ((), '', 'b', '', '')), phone('b', PLAIN, ((), '', 'c', '', '')), phone('c', PLAIN, ((), '', 'a', 'b', '')))
        given = tuple(pair for pair in pairs_in(one) if pair[1] != PLAIN)
        for places in permutations(one[2]):
            self.assert_least(house(*places), given, (given[1:2], given[2:]), harms=('round',))

    def test_they_ascend_whatever_is_found_first(self):
        # One ring goes by b and c, one by a and c.
        one = house(
            phone('a', PLAIN, ((), '', 'c', '', '')), phone('b', PLAIN, ((), '', 'c', '', '')), phone('c', PLAIN, ((), '', 'b', 'a', '')))
        given = tuple(pair for pair in pairs_in(one) if pair[1] != PLAIN)
        for places in permutations(one[2]):
            self.assert_least(house(*places), given, (given[:2], given[2:]), harms=('round',))

    def test_least_sets_that_have_pairs_in_common(self):
        # Each two of the three phones lead to one another: so two of them are to leave.
        one = house(phone('a', PLAIN, ((), '', 'b', 'c', '')), phone('b', PLAIN, ((), '', 'a', 'c', '')), phone('c', PLAIN, ((), '', 'a', 'b', '')))
        given = tuple(pair for pair in pairs_in(one) if pair[1] != PLAIN)
        for places in permutations(one[2]):
            self.assert_least(house(*places), given, tuple(combinations(given, 2)), harms=('round',))

    def test_greatest_ones_in_their_own_order(self):
        one = house(phone('a', PLAIN, ((), '', 'b', '', '')), phone('b', PLAIN, ((), '', 'a', '', '')))
        given = tuple(pair for pair in pairs_in(one) if pair[1] != PLAIN)
        self.assert_same(least_taken(one, given), (given[:1], given[1:]))
        self.assert_same(greatest_left(one, given), (given[:1], given[1:]))

    def test_each_harm(self):
        past = ((5,), 'b', '', '', '')
        one = house(
            choosing('a', PLAIN, ((), '', 'a', '', ''), ((), '', '', 'g', ''), ((), '', 'b', '', ''), past), phone('b'), group('g', 'a'),
            bars=(('a', 'b'),))
        pairs = {pair[1]: (pair,) for pair in pairs_in(one) if pair[0] == 'a'}
        for harm, setting in (('round', ((), '', 'a', '', '')), ('twice', ((), '', '', 'g', '')), ('lost', past)):
            self.assert_least(one, pairs_in(one), (pairs[setting],), harms=(harm,))
        both = tuple(sorted(pairs[past] + pairs[((), '', 'b', '', '')]))
        self.assert_least(one, pairs_in(one), (both,), harms=('barred',))
        self.assert_least(one, pairs_in(one), (both,), harms=('barred', 'lost'))
        rest = tuple(sorted(pair for setting, (pair,) in pairs.items() if setting != PLAIN))
        self.assert_least(one, pairs_in(one), (rest,))

    def test_a_setting_that_does_not_matter_in_a_group(self):
        # The group asks no settings: so what its phones lead to does not matter for calls to it.
        one = house(phone('a', PLAIN, ((), '', 'vox', '', '')), group('g', 'a', after='a'), VOX)
        self.assert_least(one, pairs_in(one), (), harms=('twice',))

    def test_beside_all_subsets_and_all_calls(self):
        seen = {}
        for one in tiny_houses(110, 521):
            told = all_told(one)
            given = pairs_in(one)
            for harms in ASKED:
                wanted = least_sets(one, told, given, harms)
                self.assert_least(one, given, wanted, harms=harms)
                seen[(len(wanted), max([len(taken) for taken in wanted], default=0))] = True
            for part in subsets(given)[1:-1:3]:
                self.assert_least(one, part, least_sets(one, told, part, HARMS))
                self.assert_least(one, part, least_sets(one, told, part, ('lost',)), harms=('lost',))
        self.assertLessEqual({(0, 0), (1, 0), (1, 1), (1, 2), (2, 1)}, set(seen))

    def test_what_includes_a_set_that_is_enough_is_enough(self):
        for one in tiny_houses(30, 522):
            given = pairs_in(one)
            for harms in (HARMS, ('round',), ('twice', 'lost')):
                least = least_taken(one, given, harms=harms)
                for part in subsets(given):
                    if leaves_all(one, part):
                        enough = any(set(taken) <= set(part) for taken in least)
                        self.assert_same(is_harmless(without_settings(one, part), harms=harms), enough)

    def test_fewer_settings_bring_no_harm(self):
        for one in tiny_houses(25, 523):
            for part in subsets(pairs_in(one)):
                if leaves_all(one, part):
                    less = without_settings(one, part)
                    for place in one[2]:
                        self.assertLessEqual(set(harms_of(less, place[1])), set(harms_of(one, place[1])))

    def test_houses_at_the_limits(self):
        for one, given in great_takings(15, 524):
            self.assertEqual(len(set(given)), 6)
            for harms in ((), ('round',), ('twice',), ('lost',), ('barred',), HARMS):
                least = least_taken(one, given, harms=harms)
                for part in subsets(given)[::5]:
                    if leaves_all(one, part):
                        enough = any(set(taken) <= set(part) for taken in least)
                        self.assert_same(is_harmless(without_settings(one, part), harms=harms), enough)
                for taken in least:
                    self.assert_same(is_harmless(without_settings(one, taken), harms=harms), True)
                    for pair in taken:
                        late = tuple(other for other in taken if other != pair)
                        self.assert_same(is_harmless(without_settings(one, late), harms=harms), False)
                self.assert_same(greatest_left(one, given, harms=harms), tuple(sorted(
                    tuple(pair for pair in given if pair not in taken) for taken in least)))

    def test_not_usable(self):
        for function in (least_taken, greatest_left):
            for odd in (*ODD, HOUSE[:2], house(BOB, VOX)):
                self.assert_unusable('house', function, odd, (), harms=())
                self.assert_unusable('house', function, odd, None, harms=None)
            self.assert_each_unusable('given', NO_GIVEN, lambda thing: function(HOUSE, thing))
            self.assert_each_unusable('given', NO_GIVEN, lambda thing: function(HOUSE, thing, harms=None))
            self.assert_each_unusable('harms', NO_HARMS, lambda thing: function(HOUSE, (), harms=thing))
            self.assert_unusable('harms', function, HOUSE, pairs_in(HOUSE), harms=('round', 'round'))
            self.assertRaises(TypeError, function, HOUSE, (), HARMS)

    def test_the_house_of_the_document(self):
        given = pairs_in(HOUSE)
        told = all_told(HOUSE, (0, 9))
        for harms in ASKED:
            self.assert_least(HOUSE, given, least_sets(HOUSE, told, given, harms), harms=harms)


if __name__ == '__main__':
    unittest.main()
