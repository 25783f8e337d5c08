"""Points 43, 44 and 45: what can happen in a house, as objects."""

import unittest

from ledcalls import harmclasses
from ledcalls.callclasses import Call
from ledcalls.harmclasses import Feared, Harms
from ledcalls.harms import harms_of
from ledcalls.housechanges import with_bars, without_place, without_settings
from ledcalls.houseclasses import House
from ledcalls.kinds import HARMS
from oracle import great_house, some_houses, tell
from samples import ANN, BOB, CALL, HOUSE, ODD, VOX, Strict, error_of, group, house, phone

ALL = ('barred', 'lost', 'round', 'twice')
TABLE = (('ann', ('round', 'twice')), ('bob', ('barred', 'round', 'twice')), ('desk', ()), ('vox', ()))
LISTED = (
    '__init__', 'house_now', 'feared_now', 'table_now', 'harmless_now', '__getitem__', '__call__', '__contains__', '__len__',
    '__iter__', '__str__', '__eq__', '__le__', 'without')
NO_HARMS = (*ODD, 'Round', 'busy', 'ann', ('round',), ['round'], HARMS, 0, HOUSE)
NO_NAMES = (*ODD, HOUSE, ANN, 0, 1, ('ann',), 'round')
# None of these is a set of pairs of the document's house that leaves each phone a setting.
NO_TAKEN = (
    *(odd for odd in ODD if odd != ()), (('ann', ANN[4][0]),), [('bob', BOB[4][0])], (('bob', BOB[4][0]), ('bob', BOB[4][1])),
    (('bob', BOB[4][1]),) * 2, ('bob', BOB[4][1]), (('vox', BOB[4][1]),), (('bob', ANN[4][0]),), (['bob', BOB[4][1]],))


class TestHarms(Strict):

    def test_each_listed_method_stands_in_the_class_itself(self):
        for name in LISTED:
            self.assertIn(name, vars(Harms))
        self.assertIn('__init__', vars(Feared))
        self.assertEqual(Feared.__bases__, (Harms,))
        self.assertEqual({Harms.__module__, Feared.__module__}, {harmclasses.__name__})

    def test_properties(self):
        one = Harms(HOUSE)
        self.assert_same([one.house_now, one.feared_now, one.table_now, one.harmless_now], [HOUSE, ALL, TABLE, False])
        box = Harms(house=house(VOX))
        self.assert_same([box.house_now, box.feared_now, box.table_now, box.harmless_now],
                         [house(VOX), ALL, (('vox', ()),), True])
        for name in LISTED[1:5]:
            self.assertRaises(AttributeError, setattr, one, name, ())

    def test_tables_beside_the_function(self):
        for form in some_houses(50, 43):
            one = Harms(form)
            wanted = tuple((place[1], harms_of(form, place[1])) for place in form[2])
            self.assert_same(one.table_now, wanted)
            self.assert_same(one.harmless_now, not any(found for _, found in wanted))
            self.assert_same([name for name in one], [name for name, found in wanted if found])
            self.assert_same(len(one), len([name for name, found in wanted if found]))
            for harm in HARMS:
                self.assert_same(harm in one, any(harm in found for _, found in wanted))
            for name, found in wanted:
                self.assert_same(one[name], found)
                for harm in HARMS:
                    call = one(name, harm)
                    self.assert_same(call is not None, harm in found)
                    if call is not None:
                        self.assertIn(harm, tell(form, call)['harms'])
                        self.assert_same(call[0], name)

    def test_items(self):
        one = Harms(HOUSE)
        for name, found in TABLE:
            self.assert_same(one[name], found)
        self.assert_each_unusable('name', (*NO_NAMES, one), lambda thing: one[thing])

    def test_calls(self):
        one = Harms(HOUSE)
        self.assert_same([one('ann', 'lost'), one('vox', 'barred'), one(name='desk', harm='round')], [None] * 3)
        self.assert_same(Call.of(HOUSE, one('bob', 'barred')).harms_now[0], 'barred')
        self.assert_same(one(harm='round', name='ann')[0], 'ann')
        for odd in NO_NAMES:
            self.assert_unusable('name', one, odd, 'round')
            self.assert_unusable('name', one, odd, None)
        self.assert_each_unusable('harm', (*NO_HARMS, one), lambda thing: one('ann', thing))
        self.assert_each_unusable('harm', NO_HARMS, lambda thing: one('vox', thing))

    def test_in_and_len_and_iteration(self):
        one = Harms(HOUSE)
        self.assert_same([harm in one for harm in HARMS], [True, True, False, True])
        for odd in (*NO_HARMS, one, 'ann', 'roun', ('round', 'twice')):
            self.assert_same(odd in one, False)
        self.assert_same([len(one), list(one), [*one], bool(one)], [2, ['ann', 'bob'], ['ann', 'bob'], True])
        self.assert_same([name for name in one for _ in one], ['ann', 'ann', 'bob', 'bob'])
        none = Harms(house(VOX))
        self.assert_same([len(none), list(none), 'round' in none], [0, [], False])
        turned = Harms((HOUSE[0], HOUSE[1], HOUSE[2][::-1]))
        self.assert_same(list(turned), ['bob', 'ann'])

    def test_text(self):
        self.assert_same(str(Harms(HOUSE)), 'ann round,twice\nbob barred,round,twice\ndesk -\nvox -')
        self.assert_same(str(Harms(house(VOX))), 'vox -')

    def test_equal(self):
        one = Harms(HOUSE)
        self.assert_same([one == Harms(HOUSE), one != Harms(HOUSE), one == one], [True, False, True])
        # Other houses, in which the same can happen.
        kept = (('kept', 'kept'), *HOUSE[1:])
        self.assert_same(Harms(kept).table_now, TABLE)
        for other in (Harms(kept), Harms(with_bars(HOUSE, ())), Harms(house(VOX)), Feared(HOUSE, *HARMS[:3]), Feared(HOUSE)):
            self.assert_same([one == other, other == one, one != other], [False, False, True])
        for odd in (*ODD, HOUSE, TABLE, str(one), House(*HOUSE), (HOUSE, ALL)):
            self.assert_same([one == odd, odd == one, one != odd], [False, False, True])

    def test_less_or_equal(self):
        one = Harms(HOUSE)
        less = Harms(with_bars(HOUSE, ()))
        self.assert_same([one <= one, less <= one, one <= less, one >= less, less >= one], [True, True, False, True, False])
        # A name that the other one does not have has no harms there.
        box = Harms(house(VOX))
        more = Harms((*HOUSE[:2], (*HOUSE[2], ('box', 'more', 0))))
        self.assert_same([box <= one, one <= box, one <= more, more <= one], [True, False, True, True])
        alone = Harms(house(phone('ann', ((), '', 'ann', '', ''))))
        self.assert_same([alone <= one, one <= alone], [True, False])
        self.assert_same(Harms(house(phone('eve', ((), '', 'eve', '', '')))) <= one, False)
        self.assert_same(Harms(house(VOX)) <= Harms(house(phone('eve'))), True)
        self.assert_each_unusable(
            'other', (*ODD, HOUSE, TABLE, House(*HOUSE), Call.of(HOUSE, CALL)), lambda thing: one <= thing)

    def test_without(self):
        one = Harms(HOUSE)
        taken = (('bob', BOB[4][0]),)
        late = one.without(taken)
        self.assertIs(late.__class__, Harms)
        self.assert_same([late.house_now, late.feared_now], [without_settings(HOUSE, taken), ALL])
        self.assert_same(late == Harms(without_settings(HOUSE, taken)), True)
        self.assert_same([one.without(taken=()) == one, late <= one, one.house_now, one.table_now], [True, True, HOUSE, TABLE])
        self.assert_each_unusable('taken', NO_TAKEN, one.without)
        self.assert_same([one.house_now, one.table_now, one.feared_now], [HOUSE, TABLE, ALL])

    def test_without_is_not_greater(self):
        for form in some_houses(40, 430):
            one = Harms(form)
            taken = tuple(sorted((place[1], place[4][-1]) for place in form[2] if place[0] == 'phone' and len(place[4]) > 1))
            late = one.without(taken)
            self.assert_same(late <= one, True)
            self.assert_same(late.house_now, without_settings(form, taken))

    def test_not_usable(self):
        self.assert_each_unusable('house', (*ODD, HOUSE[:2], house(BOB, VOX), House(*HOUSE), group('g', 'a')), Harms)

    def test_a_house_at_the_limits(self):
        for seed in (0, 1, 2, 5):
            form = great_house(seed, seed % 3, seed, 0.2)
            self.assert_same(Harms(form).table_now, tuple((place[1], harms_of(form, place[1])) for place in form[2]))


class TestFeared(Strict):

    def test_of_the_document(self):
        one, two = Harms(HOUSE), Feared(HOUSE, 'twice', 'lost')
        self.assertIsInstance(two, Harms)
        self.assert_same([list(two), two.feared_now, two <= one, one <= two], [['ann', 'bob'], ('lost', 'twice'), True, False])
        self.assert_same(two.table_now, (('ann', ('twice',)), ('bob', ('twice',)), ('desk', ()), ('vox', ())))
        self.assert_same(str(Feared(HOUSE, 'barred')), 'ann -\nbob barred\ndesk -\nvox -')
        self.assert_same([two.house_now, two.harmless_now, len(two)], [HOUSE, False, 2])
        self.assert_same([two['ann'], 'round' in two, 'twice' in two, 'lost' in two], [('twice',), False, True, False])

    def test_of_no_harms(self):
        none = Feared(HOUSE)
        self.assert_same([none.feared_now, none.harmless_now, len(none), list(none)], [(), True, 0, []])
        self.assert_same([str(none), none['bob'], 'round' in none], ['ann -\nbob -\ndesk -\nvox -', (), False])
        self.assert_each_unusable('harm', (*NO_HARMS, *HARMS), lambda thing: none('ann', thing))

    def test_beside_all_four(self):
        for form in some_houses(25, 44):
            one = Harms(form)
            for k in range(16):
                asked = tuple(harm for j, harm in enumerate(HARMS) if k >> j & 1)
                two = Feared(form, *asked)
                self.assert_same(two.feared_now, tuple(sorted(asked)))
                wanted = tuple((name, tuple(harm for harm in found if harm in asked)) for name, found in one.table_now)
                self.assert_same(two.table_now, wanted)
                self.assert_same(two.harmless_now, not any(found for _, found in wanted))
                self.assert_same([two <= one, one <= two], [True, wanted == one.table_now])
                self.assert_same(list(two), [name for name, found in wanted if found])

    def test_harms_that_are_not_looked_at(self):
        two = Feared(HOUSE, 'twice', 'lost')
        self.assertIn('twice', tell(HOUSE, two('bob', 'twice'))['harms'])
        self.assert_same(two('ann', 'lost'), None)
        self.assert_each_unusable('harm', (*NO_HARMS, 'round', 'barred'), lambda thing: two('ann', thing))
        self.assert_each_unusable('name', NO_NAMES, lambda thing: two(thing, 'round'))
        self.assert_each_unusable('name', NO_NAMES, lambda thing: two[thing])

    def test_equal(self):
        one, four = Harms(HOUSE), Feared(HOUSE, 'twice', 'lost', 'round', 'barred')
        self.assert_same([one == four, four == one, one != four, four <= one, one <= four], [True, True, False, True, True])
        self.assert_same(Feared(HOUSE, 'twice', 'lost') == Feared(HOUSE, 'lost', 'twice'), True)
        # The same can happen, but not the same is looked at.
        self.assert_same(Feared(HOUSE, 'twice', 'lost') == Feared(HOUSE, 'twice'), False)
        self.assert_same(Feared(HOUSE, 'twice') == Feared(without_settings(HOUSE, (('bob', BOB[4][1]),)), 'twice'), False)

    def test_without_is_of_the_class_harms_itself(self):
        two = Feared(HOUSE, 'lost')
        late = two.without((('bob', BOB[4][1]),))
        self.assertIs(late.__class__, Harms)
        self.assert_same(late.feared_now, ALL)
        self.assert_same(late == Harms(without_settings(HOUSE, (('bob', BOB[4][1]),))), True)
        self.assert_same([late <= two, two <= late], [False, True])
        self.assert_each_unusable('taken', NO_TAKEN, two.without)
        self.assert_same([two.feared_now, two.house_now], [('lost',), HOUSE])

    def assert_odd_harm(self, k, *harms, form=HOUSE):
        self.assert_same(error_of(Feared, form, *harms), ('NotUsable', {'word': 'harms', 'at': k}))

    def test_not_usable(self):
        for odd in NO_HARMS:
            self.assert_odd_harm(0, odd)
            self.assert_odd_harm(0, odd, 'lost')
            self.assert_odd_harm(1, 'lost', odd)
            self.assert_odd_harm(2, 'lost', 'round', odd, odd, 'lost')
        self.assert_odd_harm(1, 'lost', 'lost')
        self.assert_odd_harm(2, 'lost', 'twice', 'lost', 'Lost')
        self.assert_odd_harm(4, *HARMS, 'barred')
        self.assert_odd_harm(0, None, form=without_place(house(VOX, ('box', 'a', 0)), 'a'))
        for odd in (*ODD, HOUSE[:2], house(BOB, VOX)):
            self.assert_unusable('house', Feared, odd)
            self.assert_unusable('house', Feared, odd, 'lost')
            self.assert_unusable('house', Feared, odd, None, 'lost', 'lost')
        self.assert_same(Feared(house=HOUSE).feared_now, ())


if __name__ == '__main__':
    unittest.main()
