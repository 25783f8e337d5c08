"""Points 16, 17, 21 and 22: houses as objects."""

import unittest

from ledcalls import houseclasses
from ledcalls.errors import NotUsable
from ledcalls.housechanges import (
    moved, renamed, with_bars, with_border, with_place, with_settings, without_place, without_settings)
from ledcalls.houseclasses import Chosen, House
from ledcalls.houseparts import leads_of
from ledcalls.housereadings import read_house
from ledcalls.housetexts import house_text
from oracle import some_houses
from samples import (
    ANN, BOB, CALL, DESK, HOUSE, KEPT, NO_STRINGS, ODD, VOX, Strict, error_of, group, house, phone)

PLAIN = ((), '', '', '', '')
MORE = ('box', 'more', 0)
BOOK = (ANN[4][0], BOB[4][1])
CHOSEN_FORM = (*HOUSE[:2], (ANN, (*BOB[:4], (BOB[4][1],)), DESK, VOX))
LISTED = (
    '__init__', '__getitem__', '__call__', '__contains__', '__len__', '__iter__', '__str__', '__eq__', '__le__',
    '__add__', '__sub__', '__mod__', 'ahead', 'choosing', 'barring', 'bordered', 'shifted', 'naming', 'of', 'read',
    'border_now', 'bars_now', 'places_now', 'form_now', 'names_now')


def change_pairs(form):
    """Pairs of a change of a House and the function that does the same to its form, with odd values too."""
    return (
        (lambda one, thing: one + thing, with_place, (MORE, phone('eve', ((), '', 'ann', '', '')), ANN, group('g', 'g'))),
        (lambda one, thing: one.ahead(thing), lambda form, thing: with_place(form, thing, spot=0),
         (MORE, phone('eve', ((), '', 'ann', '', '')), VOX, phone('a', ((), '', 'no', '', '')))),
        (lambda one, thing: one.ahead(place=thing), lambda form, thing: with_place(form, thing, spot=0), (MORE,)),
        (lambda one, thing: one - thing, without_place, tuple(place[1] for place in form[2])),
        (lambda one, thing: one % thing, without_settings,
         ((), (('bob', BOB[4][0]),), (('bob', BOB[4][1]),), (('ann', ANN[4][0]),))),
        (lambda one, thing: one.choosing('bob', thing), lambda form, thing: with_settings(form, 'bob', thing),
         ((PLAIN,), BOB[4], (((), '', 'no', '', ''),))),
        (lambda one, thing: one.choosing(thing, (PLAIN,)), lambda form, thing: with_settings(form, thing, (PLAIN,)),
         ('ann', 'desk')),
        (lambda one, thing: one.choosing(settings=(PLAIN,), name=thing),
         lambda form, thing: with_settings(form, thing, (PLAIN,)), ('ann', 'bob')),
        (lambda one, thing: one.barring(thing), with_bars, ((), (('ann', 'vox'),), (('ann', 'desk'),))),
        (lambda one, thing: one.barring(bars=thing), with_bars, ((),)),
        (lambda one, thing: one.bordered(thing), with_border, (KEPT, ('lost', 'lost'), ('lost', 'own'))),
        (lambda one, thing: one.bordered(border=thing), with_border, (KEPT,)),
        (lambda one, thing: one.shifted(thing, 1), lambda form, thing: moved(form, thing, 1), ('ann', 'desk', 'vox')),
        (lambda one, thing: one.shifted('vox', thing), lambda form, thing: moved(form, 'vox', thing), (0, 1, 2)),
        (lambda one, thing: one.shifted(side=thing, name='vox'), lambda form, thing: moved(form, 'vox', thing), (0, 1)),
        (lambda one, thing: one.naming('bob', thing), lambda form, thing: renamed(form, 'bob', thing),
         ('bob', 'zoe', 'a', 'ann')),
        (lambda one, thing: one.naming(thing, 'zoe'), lambda form, thing: renamed(form, thing, 'zoe'), ('vox', 'desk')),
        (lambda one, thing: one.naming(new=thing, old='vox'), lambda form, thing: renamed(form, 'vox', thing), ('z',)),
    )


class TestHouse(Strict):

    def test_each_listed_method_stands_in_the_class_itself(self):
        for name in LISTED:
            self.assertIn(name, vars(House))
        for name in ('__init__', 'source_now', 'book_now'):
            self.assertIn(name, vars(Chosen))
        self.assertIsInstance(vars(House)['of'], staticmethod)
        self.assertIsInstance(vars(House)['read'], classmethod)
        self.assertEqual(Chosen.__bases__, (House,))
        self.assertEqual(House.__module__, houseclasses.__name__)

    def test_properties(self):
        one = House(*HOUSE)
        self.assert_same(one.border_now, HOUSE[0])
        self.assert_same(one.bars_now, HOUSE[1])
        self.assert_same(one.places_now, HOUSE[2])
        self.assert_same(one.form_now, HOUSE)
        self.assert_same(one.names_now, ('ann', 'bob', 'desk', 'vox'))
        self.assert_same(House(places=(VOX,), bars=(), border=KEPT).form_now, house(VOX))
        for name in ('border_now', 'bars_now', 'places_now', 'form_now', 'names_now'):
            self.assertRaises(AttributeError, setattr, one, name, ())

    def test_errors_of_a_house(self):
        self.assert_paper('shape', -1, House, KEPT, (), [VOX])
        self.assert_paper('shape', -1, House, KEPT, (), ())
        self.assert_paper('border', -1, House, ('kept', 'own'), (), (VOX,))
        self.assert_paper('twice', 1, House, KEPT, (), (VOX, VOX))
        self.assert_paper('setting', (0, 0), House, KEPT, (), (BOB, VOX))
        self.assert_paper('within', 0, House, KEPT, (), (group('g', 'g'),))
        self.assert_paper('bars', 0, House, KEPT, (('a', 'b'),), (VOX,))
        for odd in ODD:
            self.assert_paper('shape', -1, House, KEPT, (), [odd])
            self.assert_paper('place', 0, House, KEPT, (), (odd,))

    def test_items(self):
        one = House(*HOUSE)
        for place in HOUSE[2]:
            self.assert_same(one[place[1]], place)
        self.assert_each_unusable('name', (*ODD, ANN, HOUSE, 0, 1), lambda thing: one[thing])

    def test_leads(self):
        one = House(*HOUSE)
        for hour in range(24):
            self.assert_same(one(hour), leads_of(HOUSE, hour))
        self.assert_same(one(hour=0), leads_of(HOUSE, 0))
        self.assert_each_unusable('hour', ODD, one)

    def test_in_and_len_and_iteration(self):
        one = House(*HOUSE)
        for name in one.names_now:
            self.assert_same(name in one, True)
        for odd in (*ODD, 'an', 'nn', ANN, HOUSE, one, CALL):
            self.assert_same(odd in one, False)
        self.assert_same([len(one), len(House.of(VOX)), bool(one)], [4, 1, True])
        self.assert_same(list(one), ['ann', 'bob', 'desk', 'vox'])
        self.assert_same([name for name in one for _ in one], [name for name in HOUSE_NAMES for _ in range(4)])
        self.assert_same(list(House.of(phone('z'), phone('a'))), ['z', 'a'])

    def test_text(self):
        for form in some_houses(20, 3):
            self.assert_same(str(House(*form)), house_text(form))

    def test_equal(self):
        one = House(*HOUSE)
        self.assert_same(one == House(*HOUSE), True)
        self.assert_same(one != House(*HOUSE), False)
        for other in (one.bordered(KEPT), one.barring(()), one + MORE, one.shifted('vox', 0), House.of(VOX)):
            self.assert_same([one == other, other == one, one != other], [False, False, True])
        for odd in (*ODD, HOUSE, house_text(HOUSE), 'ann'):
            self.assert_same([one == odd, odd == one, one != odd], [False, False, True])
        true = House.of(phone('a', ((0, 1), 'a', '', '', '')), VOX)
        self.assert_same(true == (KEPT, (), (phone('a', ((False, True), 'a', '', '', '')), VOX)), False)

    def test_less_or_equal(self):
        one = House(*HOUSE)
        more = House(('lost', 'lost'), (), (DESK, MORE, VOX, BOB, ANN))
        self.assert_same([one <= one, one <= more, more <= one, one >= more, more >= one],
                         [True, True, False, False, True])
        for other in (one.shifted('vox', 0), one.choosing('bob', BOB[4][:1]), one.naming('vox', 'vo')):
            self.assert_same([one <= other, other <= one], [False, False])
        self.assert_same(House.of(VOX) <= one, True)
        self.assert_each_unusable('other', (*ODD, HOUSE, (ANN, BOB, DESK, VOX)), lambda thing: one <= thing)

    def test_changes(self):
        one = House(*HOUSE)
        for change, function, good in change_pairs(HOUSE):
            for thing in (*good, *ODD, ANN, HOUSE):
                with self.subTest(function=function, thing=thing):
                    try:
                        wanted = function(HOUSE, thing)
                    except ValueError:
                        self.assert_same(error_of(change, one, thing), error_of(function, HOUSE, thing))
                    else:
                        late = change(one, thing)
                        self.assertIs(late.__class__, House)
                        self.assert_same(late.form_now, wanted)
                    self.assert_same(one.form_now, HOUSE)
                    self.assert_same(one.names_now, HOUSE_NAMES)

    def test_of(self):
        one = House.of(ANN, BOB, DESK, VOX)
        self.assert_same(one.form_now, (KEPT, (), HOUSE[2]))
        self.assertIs(one.__class__, House)
        late = House.of(*HOUSE[2], bars=HOUSE[1], border=HOUSE[0])
        self.assert_same(late.form_now, HOUSE)
        self.assert_same(House.of(place=VOX).form_now, house(VOX))
        self.assert_same(one.of(VOX).form_now, house(VOX))
        self.assert_paper('border', -1, House.of, VOX, border=('kept', None))
        self.assert_paper('shape', -1, House.of, VOX, border='kept')
        self.assert_paper('shape', -1, House.of, VOX, bars=[])
        self.assert_paper('bars', 0, House.of, VOX, bars=('vox',))
        self.assert_paper('twice', 1, House.of, VOX, VOX)
        for odd in ODD:
            self.assert_paper('place', 0, House.of, odd)
            self.assert_paper('place', 1, House.of, VOX, odd)
        self.assertRaises(TypeError, House.of)

    def test_read(self):
        one = House.read(house_text(HOUSE))
        self.assert_same(one.form_now, HOUSE)
        self.assertIs(one.__class__, House)
        self.assert_same(House.read(text='border kept kept\nbox vox 1').form_now, house(VOX))
        self.assert_each_unusable('text', (*NO_STRINGS, HOUSE), House.read)
        self.assert_text(0, 0, House.read, '')
        self.assert_text(1, 3, House.read, 'border kept kept\nbox vox 1 ')
        self.assert_paper('twice', 1, House.read, 'border kept kept\nbox vox 1\nbox vox 1')
        self.assert_paper('within', 0, House.read, 'border kept kept\ngroup g 0 own turns - g')

    def test_read_back(self):
        for form in some_houses(40, 4):
            one = House(*form)
            self.assert_same(House.read(str(one)) == one, True)
            self.assert_same(read_house(str(one)), form)


HOUSE_NAMES = ('ann', 'bob', 'desk', 'vox')


class TestChosen(Strict):

    def test_it_is_a_house_with_one_setting_a_phone(self):
        one = Chosen(*HOUSE, BOOK)
        self.assertIsInstance(one, House)
        self.assert_same(one.form_now, CHOSEN_FORM)
        self.assert_same([one.border_now, one.bars_now, one.places_now], list(CHOSEN_FORM))
        self.assert_same(one['bob'], CHOSEN_FORM[2][1])
        self.assert_same(one.source_now, HOUSE)
        self.assert_same(one.book_now, BOOK)
        self.assert_same([one.names_now, len(one), list(one), 'bob' in one], [HOUSE_NAMES, 4, [*HOUSE_NAMES], True])
        self.assert_same(one(0), leads_of(CHOSEN_FORM, 0))
        self.assert_same(str(one), house_text(CHOSEN_FORM))
        named = Chosen(book=(), places=(VOX,), bars=(), border=KEPT)
        self.assert_same([named.form_now, named.source_now, named.book_now], [house(VOX), house(VOX), ()])

    def test_properties_are_not_set(self):
        one = Chosen(*HOUSE, BOOK)
        for name in ('source_now', 'book_now', 'form_now'):
            self.assertRaises(AttributeError, setattr, one, name, ())

    def test_equal_to_a_house_of_any_class(self):
        one = Chosen(*HOUSE, BOOK)
        for other in (House(*CHOSEN_FORM), Chosen(*CHOSEN_FORM, BOOK), Chosen(*HOUSE, BOOK)):
            self.assert_same([one == other, other == one, one <= other, other <= one], [True] * 4)
        for other in (House(*HOUSE), Chosen(*HOUSE, (ANN[4][0], BOB[4][0]))):
            self.assert_same([one == other, other == one, one <= other, other <= one], [False] * 4)
        only = Chosen(*house(VOX), ())
        self.assert_same([only == House.of(VOX), House.of(VOX) == only, only == house(VOX)], [True, True, False])

    def test_changes_are_of_the_class_house_itself(self):
        one = Chosen(*HOUSE, BOOK)
        for change, function, good in change_pairs(CHOSEN_FORM):
            for thing in (*good, None):
                with self.subTest(function=function, thing=thing):
                    try:
                        wanted = function(CHOSEN_FORM, thing)
                    except ValueError:
                        self.assert_same(error_of(change, one, thing), error_of(function, CHOSEN_FORM, thing))
                    else:
                        late = change(one, thing)
                        self.assertIs(late.__class__, House)
                        self.assert_same(late.form_now, wanted)
        self.assert_same([one.form_now, one.source_now, one.book_now], [CHOSEN_FORM, HOUSE, BOOK])

    def test_book(self):
        for odd in (
                *ODD, (ANN[4][0],), (*BOOK, BOOK[1]), BOOK[::-1], list(BOOK), (ANN[4], BOB[4]), (ANN[4][0], None),
                (ANN[4][0], list(BOB[4][1])), (ANN[4][0], ((False, True), 'vox', '', 'ann', '')),
                (ANN[4][0], ((0, True), 'vox', '', 'ann', '')), (ANN[4][0], [(0, 1), 'vox', '', 'ann', '']),
                (ANN[4][0], ((0,), 'vox', '', 'ann', '')), (ANN[4][0], PLAIN), ('ann', 'bob'), ('', ''), (0, 1)):
            with self.subTest(book=odd):
                self.assert_unusable('book', Chosen, *HOUSE, odd)
        self.assert_unusable('book', Chosen, *house(VOX), None)
        self.assert_unusable('book', Chosen, *house(VOX), [])

    def test_the_errors_of_house_come_first(self):
        for odd in (*ODD, (), BOOK):
            self.assert_paper('shape', -1, Chosen, KEPT, (), [VOX], odd)
            self.assert_paper('bars', 0, Chosen, KEPT, (odd, 'odd'), (VOX,), odd)
            self.assert_paper('setting', (0, 0), Chosen, KEPT, (), (BOB, VOX), odd)

    def test_not_usable_is_its_own_class(self):
        with self.assertRaises(NotUsable):
            Chosen(*HOUSE, None)


if __name__ == '__main__':
    unittest.main()
