"""Points 9 (L1, L5), 59 and 65 to 67: what boards tell, and what follows of it."""

import unittest

from ledcalls.boardlogs import replayed
from ledcalls.boards import Board
from ledcalls.callclasses import Call
from ledcalls.courses import course_of, told_caller
from ledcalls.houseclasses import House
from ledcalls.numbers import falling_numbers, most_amid
from oracle import STANDINGS, all_calls, great_house, some_call, some_houses, tell, tiny_houses
from samples import ANN, BOB, CALL, HOUSE, ODD, VOX, Strict, house, phone
from slowboard import chance_of, looks, some_story
from test_boards import BoardCase

EVENTS = (('stand', 'ann', 'busy'), ('stand', 'bob', 'unheard'), ('mark', 'm'), ('call', 'ann'), ('hop',), ('hop',))
LATE = BOB[4][1]


def led(*events, limit=None):
    """A board behind these events, with nothing counted."""
    return replayed((('board', HOUSE, limit), *events))


class TestLooks(BoardCase):

    def test_of_the_document(self):
        board = Board(HOUSE)
        board.do_all(('stand', 'ann', 'busy'), ('stand', 'bob', 'unheard'), ('call', 'ann'), ('hop',), ('hop',))
        self.assert_same([board.course_to('bob'), board.barred(('hour', 1))], [(('bob', 'ann'), ('round', 'bob')), 'call'])
        board.do_all(('stand', 'ann', 'answers'), ('hop',))
        self.assert_same([board.undo(), board.ends_now, board.table()[0]], [('hop',), (), 'ann 0:answers 2 *'])
        late = Board(HOUSE, limit=1)
        self.assert_same([late.do_all(*board.story()[1:6], ('mark', 'm'), ('hop',)), late.ended_since('m'), late.tally(), len(late)],
                         [7, (('cut', 'ann'),), (('cut', 1),), 0])

    def test_course_to(self):
        cut = led(*EVENTS[:5], limit=0)
        self.assert_same(cut.ends_now, (('cut', 'ann'),))
        # It is told with no limit, and whether a call is on or not.
        for board in (led(*EVENTS), led(*EVENTS[:2]), cut, led(*EVENTS, limit=1)):
            for name, course in (('ann', (('ann', 'bob'), ('round', 'ann'))), ('bob', (('bob', 'ann'), ('round', 'bob'))),
                                 ('desk', (('desk', 'vox'), ('boxed', 'vox'))), ('vox', (('vox',), ('boxed', 'vox')))):
                self.assert_same(board.course_to(name), course)
                self.assert_same(board.course_to(name=name), course)
        early = led(('hour', 1), ('set', 'bob', LATE))
        self.assert_same([early.course_to('bob'), led(('set', 'bob', LATE), ('hour', 2)).course_to('bob')],
                         [(('bob', 'vox'), ('boxed', 'vox')), (('bob',), ('answered', 'bob'))])
        self.assert_each_unusable('name', (*ODD, HOUSE, ANN, 0, 'm'), board.course_to)

    def test_ended_since(self):
        board = led(('mark', 'a'), ('call', 'vox'), ('mark', 'b'), ('hop',), ('mark', 'c'), ('call', 'ann'), ('drop',), ('mark', 'ann'))
        ends = (('boxed', 'vox'), ('dropped', 'ann'))
        # A call that was on at the moment is among those that ended behind it.
        self.assert_same([board.ended_since(name) for name in ('a', 'b', 'c', 'ann')], [ends, ends, ends[1:], ()])
        self.assert_same(board.ended_since(name='c'), ends[1:])
        board.do_all(('call', 'bob'), ('hop',))
        self.assert_same(board.ended_since('ann'), (('answered', 'bob'),))
        self.assert_each_unusable('name', (*ODD, 'bob', 'vox', 'd', HOUSE, 0), board.ended_since)

    def test_tally(self):
        board = Board(HOUSE)
        self.assert_same(board.tally(), ())
        for event, wanted in (
                (('hop',), (('boxed', 1),)), (('drop',), (('boxed', 1), ('dropped', 1))), (('drop',), (('boxed', 1), ('dropped', 2))),
                (('hop',), (('boxed', 2), ('dropped', 2)))):
            board.do_all(('call', 'vox'), event)
            self.assert_same(board.tally(), wanted)
        board.do_all(('call', 'ann'), ('hop',))
        self.assert_same(board.tally(), (('answered', 1), ('boxed', 2), ('dropped', 2)))

    def test_table(self):
        board = led(*EVENTS, ('set', 'bob', LATE))
        self.assert_same(board.table(), ['ann 0:busy 2 *', 'bob 1:unheard 1 -', 'desk - 0 -', 'vox - 0 -'])
        board.drop()
        self.assert_same(board.table(), ['ann 0:busy 0 -', 'bob 1:unheard 0 -', 'desk - 0 -', 'vox - 0 -'])
        board.place_call('vox')
        self.assert_same(board.table()[2:], ['desk - 0 -', 'vox - 1 *'])

    def test_lists_that_are_told_belong_to_the_caller(self):
        board = led(*EVENTS)
        board.table().clear()
        board.table().append('more')
        self.assert_told(board, HOUSE, None, EVENTS)

    def test_story(self):
        self.assert_same(led(*EVENTS, limit=5).story(), (('board', HOUSE, 5), *EVENTS))
        self.assert_same(Board(HOUSE).story(), (('board', HOUSE, None),))
        board = led(*EVENTS)
        board.undo()
        self.assert_same(board.story(), (('board', HOUSE, None), *EVENTS[:-1]))

    def test_items(self):
        board = led(*EVENTS, ('set', 'bob', LATE))
        self.assert_same([board['ann'], board['bob']], [(ANN[4][0], 'busy'), (LATE, 'unheard')])
        self.assert_each_unusable('name', (*ODD, 'desk', 'vox', 'm', 0, 1, HOUSE, ANN, slice(0, 1)), lambda thing: board[thing])

    def test_in_and_len_and_iteration(self):
        board = led(*EVENTS)
        self.assert_same([name in board for name in ('ann', 'bob', 'desk', 'vox')], [True, True, False, False])
        for odd in (*ODD, HOUSE, ('ann', 'bob', 'ann'), board, House(*HOUSE), EVENTS[0], 0, 'a'):
            self.assert_same(odd in board, False)
        self.assert_same([len(board), bool(board), list(board), [*board], list(iter(board))], [3, True, *[list(EVENTS)] * 3])
        self.assert_same([event for event in board for _ in board], [event for event in EVENTS for _ in EVENTS])
        board.drop()
        self.assert_same([len(board), bool(board), 'ann' in board, list(board)], [0, False, False, [*EVENTS, ('drop',)]])
        # What is gone through does not change by what happens meanwhile.
        self.assert_same([(event, board.undo()) for event in board], list(zip((*EVENTS, ('drop',)), (*EVENTS, ('drop',))[::-1])))

    def test_equal(self):
        board = led(*EVENTS)
        other = led(*EVENTS)
        other.do_all(('drop',), ('mark', 'x'))
        other.undo()
        self.assert_same(board == other, False)
        other.undo()
        self.assert_same([board == other, board != other, board == board, board.counts() == other.counts()], [True, False, True, False])
        turned = (EVENTS[1], EVENTS[0], *EVENTS[2:])
        for late in (led(*turned), led(*EVENTS[:-1]), led(*EVENTS, limit=5), led(), replayed((('board', (('kept', 'kept'), *HOUSE[1:]), None), *EVENTS))):
            self.assert_same([board == late, late == board, board != late], [False, False, True])
        # The same is so on both, but the stories are unlike.
        self.assert_same(led(('hour', 3), ('hour', 0)) == led(), False)
        for odd in (*ODD, HOUSE, board.story(), House(*HOUSE), Call.of(HOUSE, CALL), list(EVENTS), str(board)):
            self.assert_same([board == odd, odd == board, board != odd], [False, False, True])

    def test_boards_of_derived_classes(self):
        class Late(Board):
            pass
        late = Late(HOUSE)
        late.do_all(*EVENTS)
        self.assert_same([late == led(*EVENTS), led(*EVENTS) == late], [True, True])

    def test_boards_do_not_share_what_they_have(self):
        one, two = Board(HOUSE), Board(HOUSE)
        one.do_all(*EVENTS)
        self.assert_told(two, HOUSE, None, ())
        self.assert_same(two.counts(), (0, 0))


class TestConsequences(BoardCase):

    def assert_goes_the_course(self, one, call, limit):
        """A call goes its course until it comes to a place again, or is cut."""
        board = Board(one, limit=limit)
        name, hour, book, standings = call
        phones = [place[1] for place in one[2] if place[0] == 'phone']
        for event in [('hour', hour), *[('set', *pair) for pair in zip(phones, book)], *[('stand', *pair) for pair in zip(phones, standings)]]:
            if board.barred(event) is None:
                board.happen(event)
        board.place_call(name)
        names, end = board.course_to(name)
        self.assert_same((names, end), course_of(one, call))
        row = tell(one, call)
        for k in range(len(names)):
            self.assert_same(board.at_now, names[:k + 1])
            self.assert_same((board.rung_now, board.count_now), (row['rung'][k], (*row['counts'], board.count_now)[k]))
            if k % 2:
                board.mark('mm' + 'abcdefgh'[k])
            board.hop()
            if limit is not None and k < len(row['counts']) and row['counts'][k] >= limit:
                self.assert_same(board.ends_now, (('cut', names[k]),))
                return
        if end[0] == 'round':
            self.assert_same((board.at_now, board.ends_now), ((*names, end[1]), ()))
        else:
            self.assert_same((board.at_now, board.ends_now), ((), (end,)))

    def test_calls_go_their_courses(self):
        chance = chance_of(670)
        for one in tiny_houses(40, 670):
            calls = list(all_calls(one, (0, 2)))
            for call in chance.sample(calls, min(len(calls), 12)):
                self.assert_goes_the_course(one, call, chance.choice([None, 0, 1, 2, 3]))
        for one in [*some_houses(40, 671), *[great_house(seed, seed % 3, seed % 4, 0.4) for seed in range(10)]]:
            for _ in range(6):
                self.assert_goes_the_course(one, some_call(chance, one), chance.choice([None, None, 0, 1, 2, 3, 4]))

    def test_the_caller_at_the_last_place_of_a_course(self):
        chance = chance_of(672)
        for one in some_houses(30, 672):
            call = some_call(chance, one)
            board = Board(one)
            phones = [place[1] for place in one[2] if place[0] == 'phone']
            for event in [('hour', call[1]), *[('set', *pair) for pair in zip(phones, call[2])], *[('stand', *pair) for pair in zip(phones, call[3])]]:
                if board.barred(event) is None:
                    board.happen(event)
            board.place_call(call[0])
            for _ in range(len(course_of(one, call)[0]) - 1):
                board.hop()
            self.assert_same(board.told_now, told_caller(one, call))

    def test_falling_numbers_bound_the_hops_amid_changes(self):
        chance = chance_of(673)
        bounded = 0
        for one in tiny_houses(120, 673):
            for hour in (0, 1):
                for place in one[2]:
                    numbers = falling_numbers(one, place[1], hour)
                    if numbers is not None:
                        bounded += 1
                        most = dict(numbers)[place[1]]
                        self.assert_same(most_amid(one, place[1], hour), most)
                        self.assert_bounded(chance, one, place[1], hour, most)
        self.assertGreater(bounded, 200)

    def assert_bounded(self, chance, one, name, hour, most):
        """However settings and standings change, a call is not led on more often."""
        board = Board(one)
        if hour:
            board.set_hour(hour)
        board.place_call(name)
        phones = [place for place in one[2] if place[0] == 'phone']
        hops = 0
        while board and len(list(board)) < 38:
            if phones:
                place = chance.choice(phones)
                event = chance.choice([('set', place[1], chance.choice(place[4])), ('stand', place[1], chance.choice(STANDINGS[1:]))])
                if board.barred(event) is None:
                    board += event
            if chance.random() < 0.6:
                board.hop()
                hops += 1
                self.assertLessEqual(len(board), most + 1)
        self.assertTrue(board.ends_now or hops <= most + 1)

    def test_told_anew_from_the_story(self):
        chance = chance_of(674)
        for one in tiny_houses(40, 674):
            limit = chance.choice([None, 0, 1, 2])
            events = some_story(chance, one, limit, 20)
            board = Board(one, limit=limit)
            board.do_all(*events, ('mark', 'end'))
            board.undo()
            again = replayed(board.story())
            self.assert_same([again == board, again.story(), again.table()], [True, board.story(), looks(one, limit, events)['table']])
            self.assert_told(again, one, limit, events)

    def test_houses_of_boxes_alone(self):
        board = Board(house(VOX, ('box', 'a', 0)))
        board.do_all(('call', 'a'), ('hop',), ('call', 'vox'))
        self.assert_same([board.table(), board.rung_now, board.course_to('a'), board.tally()],
                         [['vox - 1 *', 'a - 0 -'], (), (('a',), ('boxed', 'a')), (('boxed', 1),)])
        self.assert_unusable('name', lambda: board['a'])


class TestAgreement(Strict):

    def test_a_board_agrees_with_a_fresh_start(self):
        # Whatever was done and undone before, the board is as one that begins with what is so now.
        one = house(phone('a', ((), '', '', '', ''), ((), '', 'b', '', '')), phone('b', ((), '', 'a', '', '')))
        board, start = Board(one), Board(one)
        board.do_all(('set', 'a', one[2][0][4][1]), ('stand', 'a', 'busy'), ('call', 'a'), ('hop',), ('drop',))
        for _ in range(5):
            board.undo()
        for late in (board, start):
            late.do_all(('stand', 'b', 'busy'), ('call', 'b'), ('hop',))
        self.assert_same([board == start, board.at_now, board.table()], [True, ('b', 'a'), start.table()])


if __name__ == '__main__':
    unittest.main()
