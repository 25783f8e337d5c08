"""Points 2 and 9, and what follows over the whole: other names, orders and sides, objects beside functions, texts."""

import unittest

from ledcalls.backs import call_back, ends_back
from ledcalls.boardlogs import replayed
from ledcalls.boardreadings import read_story
from ledcalls.boards import Board, rehearsed
from ledcalls.boardtexts import story_lines
from ledcalls.callclasses import Call
from ledcalls.callreadings import read_call
from ledcalls.calltexts import call_text
from ledcalls.courses import counts_in, course_of, is_cut, rung_in, told_caller
from ledcalls.desks import Desk
from ledcalls.harmclasses import Feared, Harms
from ledcalls.harms import ends_of, harm_call, harms_of, is_harmless
from ledcalls.harmshows import harms_shown
from ledcalls.housechanges import moved, renamed, with_border, without_settings
from ledcalls.houseclasses import Chosen, House
from ledcalls.housereadings import read_house
from ledcalls.housetexts import house_text
from ledcalls.kinds import HARMS
from ledcalls.limitpapers import unsure_paper
from ledcalls.limits import cut_call, least_limit, most_hops, sure_limit, uncut_call
from ledcalls.numbers import falling_numbers, most_amid
from ledcalls.rings import can_round, rings_of
from ledcalls.takingpapers import taking_paper
from ledcalls.takings import greatest_left, least_taken
from ledcalls.within import is_within
from oracle import leaves_all, pairs_in, some_call, some_houses, subsets, tiny_houses
from samples import HOUSE, Strict
from slowboard import chance_of, looks, some_story


def spelt(thing, names):
    """The value with other names, at any depth."""
    if isinstance(thing, (tuple, list)):
        return thing.__class__(spelt(part, names) for part in thing)
    return names.get(thing, thing) if isinstance(thing, str) else thing


def set_of(rows):
    return tuple(sorted(rows))


def house_spelt(one, names):
    """The house with other names; its settings and bars ascend by these."""
    border, bars, places = one
    changed = [spelt(place, names) for place in places]
    places = [(*place[:4], set_of(place[4])) if place[0] == 'phone' else place for place in changed]
    return (border, set_of(spelt(bars, names)), tuple(places))


def pairs_of(one, call):
    """The names of the phones with the setting and the standing of each in a call."""
    return dict(zip([place[1] for place in one[2] if place[0] == 'phone'], zip(call[2], call[3])))


def call_in(one, called, hour, pairs):
    """The call in which each phone has the setting and the standing of its pair."""
    phones = [place[1] for place in one[2] if place[0] == 'phone']
    return (called, hour, tuple(pairs[name][0] for name in phones), tuple(pairs[name][1] for name in phones))


class WholeCase(Strict):

    def assert_alike(self, one, other, names, chance):
        """All that is told of the houses is the same, but for these names."""
        self.assert_same([least_limit(other), sure_limit(other), unsure_paper(other) is None, is_harmless(other)],
                         [least_limit(one), sure_limit(one), unsure_paper(one) is None, is_harmless(one)])
        for limit in range(4):
            self.assert_same([cut_call(other, limit) is None, uncut_call(other, limit) is None], [cut_call(one, limit) is None, uncut_call(one, limit) is None])
        for hour in (0, 3):
            self.assert_same(len(rings_of(other, hour)), len(rings_of(one, hour)))
        for place in one[2]:
            self.assert_places(one, place[1], other, names.get(place[1], place[1]), names)
        given = pairs_in(one)[:4]
        late = set_of(spelt(given, names))
        for harms in (HARMS, ('round',), ('twice', 'lost')):
            wanted = set_of([set_of(taken) for taken in spelt(least_taken(one, given, harms=harms), names)])
            self.assert_same(least_taken(other, late, harms=harms), wanted)
            wanted = set_of([set_of(left) for left in spelt(greatest_left(one, given, harms=harms), names)])
            self.assert_same(greatest_left(other, late, harms=harms), wanted)
        for taken in [part for part in subsets(given) if leaves_all(one, part)]:
            self.assert_same(taking_paper(other, set_of(spelt(taken, names))) is None, taking_paper(one, taken) is None)
        for _ in range(6):
            self.assert_calls(one, some_call(chance, one), other, names)

    def assert_places(self, one, name, other, late, names):
        """All that is told of a place is the same."""
        self.assert_same([harms_of(other, late), most_hops(other, late), can_round(other, late)], [harms_of(one, name), most_hops(one, name), can_round(one, name)])
        self.assert_same(ends_of(other, late), set_of(spelt(ends_of(one, name), names)))
        for harm in HARMS:
            self.assert_same(harm_call(other, late, harm) is None, harm_call(one, name, harm) is None)
        for hour in (1, 5):
            self.assert_same(most_amid(other, late, hour), most_amid(one, name, hour))
            numbers = falling_numbers(one, name, hour)
            self.assert_same(falling_numbers(other, late, hour), numbers and set_of(spelt(numbers, names)))

    def assert_calls(self, one, call, other, names):
        """All that is told of a call is the same."""
        pairs = {names.get(name, name): spelt(pair, names) for name, pair in pairs_of(one, call).items()}
        late = call_in(other, names.get(call[0], call[0]), call[1], pairs)
        for function in (course_of, rung_in, told_caller):
            self.assert_same(function(other, late), spelt(function(one, call), names))
        self.assert_same([counts_in(other, late), harms_shown(other, late)], [counts_in(one, call), harms_shown(one, call)])
        for limit in range(4):
            self.assert_same(is_cut(other, late, limit), is_cut(one, call, limit))
        rung = sum(rung_in(one, call), ())
        for hour in (None, call[1]):
            ends = ends_back(one, call[0], rung, hour=hour)
            self.assert_same(ends_back(other, late[0], spelt(rung, names), hour=hour), set_of(spelt(ends, names)))


class TestAlike(WholeCase):

    def test_other_names(self):
        chance = chance_of(900)
        for one in [*tiny_houses(25, 900), *some_houses(12, 901)]:
            old = [place[1] for place in one[2]]
            new = chance.sample([*old, 'x', 'yy', 'zoe', 'w'], len(old))
            names = dict(zip(old, new))
            other = house_spelt(one, names)
            self.assert_alike(one, other, names, chance)
            # One by one, by names that nobody has, it comes to the same.
            late = one
            for k, name in enumerate(old):
                late = renamed(late, name, 'tmp' + 'abcdefgh'[k])
            for k, name in enumerate(new):
                late = renamed(late, 'tmp' + 'abcdefgh'[k], name)
            self.assert_same(late, other)

    def test_other_orders(self):
        chance = chance_of(902)
        for one in [*tiny_houses(25, 902), *some_houses(12, 903)]:
            places = list(one[2])
            chance.shuffle(places)
            self.assert_alike(one, (*one[:2], tuple(places)), {}, chance)

    def test_sides_exchanged(self):
        chance = chance_of(904)
        for one in [*tiny_houses(25, 904), *some_houses(12, 905)]:
            other = with_border(one, one[0][::-1])
            for place in one[2]:
                other = moved(other, place[1], 1 - place[2])
            self.assert_alike(one, other, {}, chance)

    def test_hours_that_are_alike(self):
        # An hour that no setting has is as each other such hour.
        for one in tiny_houses(20, 906):
            for place in one[2]:
                self.assert_same([falling_numbers(one, place[1], hour) for hour in range(4, 24)], [falling_numbers(one, place[1], 4)] * 20)
                self.assert_same([ends_back(one, place[1], (), hour=hour) for hour in (4, 11, 23)], [ends_back(one, place[1], (), hour=4)] * 3)

    def test_boards_in_other_orders_and_by_other_names(self):
        chance = chance_of(907)
        for one in tiny_houses(25, 907):
            old = [place[1] for place in one[2]]
            names = dict(zip(old, chance.sample([*old, 'x', 'yy', 'zoe'], len(old))))
            limit = chance.choice([None, 0, 1, 2])
            events = some_story(chance, one, limit, 12)
            board = replayed((('board', one, limit), *events))
            other = house_spelt((*one[:2], one[2][::-1]), names)
            # At first each phone has its least setting, by these names: so each is set ahead.
            late = Board(other, limit=limit)
            first = [('set', names[name], spelt(pair[0], names)) for name, pair in pairs_of(one, (0, 0, *start_of(one))).items()]
            late.do_all(*[event for event in first if late.barred(event) is None])
            for event in spelt(events, names):
                if late.barred(event) != 'same':
                    late += event
            self.assert_same(late.at_now, spelt(board.at_now, names))
            self.assert_same([late.count_now, late.told_now, late.tally()], [board.count_now, spelt(board.told_now, names), board.tally()])
            self.assert_same(late.ends_now, spelt(board.ends_now, names))


def start_of(one):
    """The least settings, and a standing, of each phone."""
    phones = [place for place in one[2] if place[0] == 'phone']
    return tuple(place[4][0] for place in phones), ('answers',) * len(phones)


class TestObjects(Strict):

    def test_houses_and_harms_beside_functions(self):
        for one in tiny_houses(25, 910):
            house = House(*one)
            self.assert_same([house.form_now, str(house), House.read(str(house)) == house], [one, house_text(one), True])
            harms = Harms(house.form_now)
            self.assert_same(list(harms.table_now), [(name, harms_of(one, name)) for name in house])
            for taken in [part for part in subsets(pairs_in(one)) if leaves_all(one, part)][:4]:
                self.assert_same((house % taken).form_now, without_settings(one, taken))
                self.assert_same([is_within((house % taken).form_now, one), harms.without(taken) <= harms], [True, True])
                self.assert_same(harms.without(taken).harmless_now, is_harmless(without_settings(one, taken)))
            for harm in HARMS:
                fear = Feared(one, harm)
                self.assert_same(fear.harmless_now, least_taken(one, (), harms=(harm,)) == ((),))

    def test_boards_beside_calls(self):
        chance = chance_of(911)
        for one in [*tiny_houses(25, 911), *some_houses(15, 912)]:
            board = Board(one)
            board.do_all(*some_story(chance, one, None, 10))
            if board:
                board.drop()
            for place in one[2]:
                call = Call(one, place[1], board.hour_now, board.book_now, board.standings_now)
                names, end = call.course_now
                self.assert_same(board.course_to(place[1]), (names, end))
                self.assertIn(end, ends_back(one, place[1], sum(call.rung_now, ()), hour=call.hour_now))
                for name, pair in pairs_of(one, call.call_now).items():
                    self.assert_same([board[name], call[name]], [pair, pair])
                at, ends = rehearsed(board, ('call', place[1]), *[('hop',)] * len(names))
                if end[0] == 'round':
                    self.assert_same((at, ends), ((*names, end[1]), board.ends_now))
                else:
                    self.assert_same((at, ends), ((), (*board.ends_now, end)))

    def test_a_chosen_house_beside_its_calls(self):
        chance = chance_of(913)
        for one in tiny_houses(25, 913):
            call = some_call(chance, one)
            late = Chosen(*one, call[2])
            self.assert_same([is_within(late.form_now, one), late.book_now], [True, call[2]])
            self.assert_same(course_of(late.form_now, call), course_of(one, call))
            self.assertLessEqual(set(harms_shown(one, call)), set(Harms(late.form_now)[call[0]]))

    def test_desks_beside_boards(self):
        chance = chance_of(914)
        for one in tiny_houses(25, 914):
            limit = chance.choice([None, 0, 1, 2])
            board = replayed((('board', one, limit), *some_story(chance, one, limit, 12)))
            lines = story_lines(board.story())
            many = len(lines) - len(list(board))
            head, rows = '\n'.join(lines[:many]), lines[many:]
            desk = Desk(HOUSE)
            self.assert_same(desk.say(head), 'ok')
            for row in rows:
                desk.say(row)
            self.assert_same([desk.say('story'), desk.say('table'), desk.say('at')],
                             [' / '.join(rows) or '-', ' / '.join(board.table()), ' '.join(board.at_now) or '-'])


class TestTexts(Strict):

    def test_there_and_back(self):
        chance = chance_of(920)
        for one in [*tiny_houses(30, 920), *some_houses(30, 921)]:
            self.assert_same(read_house(house_text(one)), one)
            self.assert_same(house_text(read_house(house_text(one))), house_text(one))
            call = some_call(chance, one)
            self.assert_same(read_call(one, call_text(one, call)), call)
            self.assert_same(str(Call.read(one, call_text(one, call))), call_text(one, call))
            limit = chance.choice([None, 0, 3])
            story = (('board', one, limit), *some_story(chance, one, limit, 8))
            self.assert_same(read_story(story_lines(story)), story)
            self.assert_same(replayed(read_story(story_lines(story))).table(), looks(one, limit, story[1:])['table'])

    def test_results_depend_on_the_arguments_alone(self):
        for one in tiny_houses(8, 922):
            again = read_house(house_text(one))
            for place in one[2]:
                self.assert_same([harms_of(one, place[1]), ends_of(one, place[1]), harm_call(one, place[1], 'twice'), call_back(one, place[1], ())],
                                 [harms_of(again, place[1]), ends_of(again, place[1]), harm_call(again, place[1], 'twice'), call_back(again, place[1], ())])
            self.assert_same([unsure_paper(one), taking_paper(one, ()), cut_call(one, 0)], [unsure_paper(again), taking_paper(again, ()), cut_call(again, 0)])


if __name__ == '__main__':
    unittest.main()
