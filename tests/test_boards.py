"""Points 9 (L5), 59, 61 to 63: live boards, their events, and the reasons for which one is refused."""

import unittest

from ledcalls import boards
from ledcalls.boards import Board
from ledcalls.houseclasses import House
from oracle import great_house, tiny_houses
from samples import ANN, BOB, CALL, DESK, HOUSE, ODD, VOX, Strict, error_of, group, house, phone
from slowboard import chance_of, looks, reason, some_event, state_behind
from test_boardevents import NO_HOURS, NO_NAMES, NO_SETTINGS, NO_STANDINGS

PLAIN = ((), '', '', '', '')
DAY = tuple(range(24))
PROPERTIES = (
    'house_now', 'limit_now', 'hour_now', 'book_now', 'standings_now', 'ends_now', 'at_now', 'count_now', 'told_now', 'rung_now')
LISTED = (
    '__init__', *PROPERTIES, 'happen', 'set_hour', 'choose', 'stand', 'place_call', 'hop', 'drop', 'mark', '__iadd__', 'barred', 'tried', 'trial',
    'undo', 'do_all', 'counts', 'course_to', 'ended_since', 'tally', 'table', 'story', '__getitem__', '__contains__', '__len__', '__iter__',
    '__eq__')
LATE = BOB[4][1]


def all_of(board):
    """All that a board tells but for what needs a parameter."""
    told = {name[:-4]: getattr(board, name) for name in PROPERTIES}
    return {**told, 'tally': board.tally(), 'table': board.table(), 'story': board.story()}


class BoardCase(Strict):

    def assert_refused(self, board, event, wanted, action=None, *things):
        """The event is refused for this reason, and nothing is changed but the counts."""
        before, (many, _) = all_of(board), board.counts()
        self.assert_same(board.barred(event), wanted)
        got = error_of(action or board.happen, *(things if action else (event,)))
        self.assert_same(got, ('InvalidEvent', {'event': event, 'reason': wanted}))
        self.assert_same(all_of(board), before)
        self.assert_same(board.counts(), (many + 1, many + 1))

    def assert_told(self, board, one, limit, events):
        """The board tells what the slow model tells behind these events."""
        wanted = looks(one, limit, events)
        for word, thing in all_of(board).items():
            self.assert_same((word, thing), (word, wanted[word]))
        for name, course in wanted['courses'].items():
            self.assert_same(board.course_to(name), course)
        for name, ends in wanted['since'].items():
            self.assert_same(board.ended_since(name), ends)
        for name, pair in wanted['phones'].items():
            self.assert_same(board[name], pair)
        self.assert_same([len(board), bool(board), list(board)], [len(wanted['at']), wanted['at'] != (), list(events)])
        for place in one[2]:
            self.assert_same(place[1] in board, place[1] in wanted['at'])


class TestBoard(BoardCase):

    def test_each_listed_method_stands_in_the_class_itself(self):
        for name in LISTED:
            self.assertIn(name, vars(Board))
        self.assertEqual((Board.__bases__, Board.__module__), ((object,), boards.__name__))
        self.assert_same((Board.MOST, vars(Board)['MOST'], Board(HOUSE).MOST), (40, 40, 40))

    def test_at_first(self):
        board = Board(HOUSE)
        wanted = {
            'house': HOUSE, 'limit': None, 'hour': 0, 'book': (ANN[4][0], BOB[4][0]), 'standings': ('answers', 'answers'), 'ends': (), 'at': (),
            'count': 0, 'told': '', 'rung': (), 'tally': (), 'table': ['ann 0:answers 0 -', 'bob 0:answers 0 -', 'desk - 0 -', 'vox - 0 -'],
            'story': (('board', HOUSE, None),)}
        self.assert_same(all_of(board), wanted)
        self.assert_same(board.counts(), (0, 0))
        boxes = Board(house=house(VOX), limit=0)
        self.assert_same([boxes.book_now, boxes.standings_now, boxes.limit_now, boxes.table()], [(), (), 0, ['vox - 0 -']])

    def test_properties_are_only_read(self):
        board = Board(HOUSE)
        for name in PROPERTIES:
            self.assertRaises(AttributeError, setattr, board, name, ())

    def test_of_the_document(self):
        board = Board(HOUSE)
        got = [board.stand('ann', 'busy'), board.stand('bob', 'unheard'), board.place_call('ann'), board.hop(), board.hop(), board.at_now]
        self.assert_same(got, ['', '', 'ann', 'bob', 'ann', ('ann', 'bob', 'ann')])
        self.assert_same([board.count_now, board.told_now, board.rung_now], [1, 'bob', ()])
        self.assert_same([board.stand('ann', 'answers'), board.rung_now, board.hop(), board.ends_now], ['ann', ('ann',), '', (('answered', 'ann'),)])

    def test_not_usable(self):
        odd_limits = [odd for odd in (*ODD, '3', (3,), [3], 'ann', HOUSE) if odd is not None and odd not in (24, 10 ** 59) or odd is True]
        for odd in (*ODD, HOUSE[:2], house(BOB, VOX), House(*HOUSE)):
            self.assert_unusable('house', Board, odd)
            self.assert_unusable('house', Board, odd, limit=3)
            self.assert_unusable('house', Board, odd, limit=True)
        self.assert_each_unusable('limit', odd_limits, lambda thing: Board(HOUSE, limit=thing))
        self.assertRaises(TypeError, Board, HOUSE, 3)
        self.assert_same([Board(HOUSE, limit=limit).limit_now for limit in (None, 0, 1, 10 ** 59)], [None, 0, 1, 10 ** 59])


class TestHops(BoardCase):

    def led(self, one, *events, limit=None):
        """A board behind these events; as many hops as a number tells."""
        board = Board(one, limit=limit)
        for event in events:
            for _ in range(event if isinstance(event, int) else 1):
                board.happen(('hop',) if isinstance(event, int) else event)
        return board

    def test_each_standing(self):
        one = house(phone('a', ((), '', 'b', 'c', 'v')), phone('b'), phone('c'), ('box', 'v', 0))
        for standing, after in (('busy', 'b'), ('unheard', 'c'), ('off', 'v')):
            board = self.led(one, ('stand', 'a', standing), ('call', 'a'))
            self.assert_same([board.hop(), board.at_now, board.count_now, board.ends_now], [after, ('a', after), 1, ()])
        board = self.led(one, ('call', 'a'))
        self.assert_same([board.hop(), board.at_now, board.count_now, board.ends_now], ['', (), 0, (('answered', 'a'),)])

    def test_each_end(self):
        one = house(phone('a'), group('g', 'a'), ('box', 'v', 0))
        for standing, word in (('answers', 'answered'), ('busy', 'busy'), ('unheard', 'unheard'), ('off', 'off')):
            events = [('stand', 'a', standing)] if standing != 'answers' else []
            self.assert_same(self.led(one, *events, ('call', 'a'), 1).ends_now, ((word, 'a'),))
            group_end = ('answered', 'a') if standing == 'answers' else ('unheard', 'g')
            self.assert_same(self.led(one, *events, ('call', 'g'), 1).ends_now, (group_end,))
        board = self.led(one, ('call', 'v'))
        self.assert_same([board.hop(), board.ends_now, board.at_now], ['', (('boxed', 'v'),), ()])
        self.assert_same([self.led(one, ('call', 'v')).drop(), self.led(one, ('call', 'a'), ('drop',)).ends_now], ['', (('dropped', 'a'),)])

    def test_hours_lead_past_whatever_the_standing(self):
        one = house(phone('a', PLAIN, ((3, 4), 'v', '', '', '')), VOX, ('box', 'v', 0))
        late = one[2][0][4][1]
        board = self.led(one, ('set', 'a', late), ('hour', 3), ('call', 'a'))
        self.assert_same([board.rung_now, board.hop(), board.count_now, board.hop(), board.ends_now], [(), 'v', 1, '', (('boxed', 'v'),)])
        board = self.led(one, ('set', 'a', late), ('hour', 5), ('call', 'a'))
        self.assert_same([board.rung_now, board.hop(), board.ends_now], [('a',), '', (('answered', 'a'),)])
        self.assert_same(self.led(one, ('hour', 3), ('call', 'a'), 1).ends_now, (('answered', 'a'),))

    def test_groups(self):
        one = house(phone('a', (DAY, 'v', '', '', '')), phone('b'), group('g', 'a', 'b', after='v'), ('box', 'v', 0), group('h', 'b', 'g', way='together'))
        board = self.led(one, ('call', 'g'))
        self.assert_same([board.rung_now, board.stand('a', 'unheard'), board.rung_now, board.stand('b', 'off'), board.rung_now],
                         [('a',), 'g', ('a', 'b'), 'g', ('a',)])
        self.assert_same([board.hop(), board.at_now], ['v', ('g', 'v')])
        board = self.led(one, ('call', 'h'))
        self.assert_same([board.rung_now, board.hop(), board.ends_now], [('b', 'a'), '', (('answered', 'b'),)])

    def test_a_place_may_come_again(self):
        board = self.led(HOUSE, ('stand', 'ann', 'busy'), ('stand', 'bob', 'unheard'), ('call', 'ann'))
        wanted = ['ann']
        for k in range(37):
            wanted.append(('bob', 'ann')[k % 2])
            self.assert_same([board.hop(), board.at_now, board.count_now], [wanted[-1], tuple(wanted), k % 2])
        self.assert_refused(board, ('hop',), 'full')
        self.assert_same([len(board), board.ends_now, board.table()[0]], [38, (), 'ann 0:busy 19 -'])

    def test_to_itself(self):
        one = house(phone('a', ((), '', 'a', '', '')))
        board = self.led(one, ('stand', 'a', 'busy'), ('call', 'a'), 3)
        self.assert_same([board.at_now, board.count_now, board.table()], [('a',) * 4, 3, ['a 0:busy 4 *']])
        self.assert_same([board.stand('a', 'off'), board.hop(), board.ends_now], ['a', '', (('off', 'a'),)])

    def test_counts_are_lost_at_the_border(self):
        chain = [phone('a', (DAY, 'b', '', '', '')), phone('b', (DAY, 'c', '', '', ''), side=1), phone('c', (DAY, 'd', '', '', ''), side=1),
                 phone('d', (DAY, 'e', '', '', '')), ('box', 'e', 0)]
        for border, wanted in ((('kept', 'kept'), [1, 2, 3, 4]), (('kept', 'lost'), [0, 1, 2, 3]), (('lost', 'kept'), [1, 2, 0, 1]),
                               (('lost', 'lost'), [0, 1, 0, 1])):
            board = self.led(house(*chain, border=border), ('call', 'a'))
            got = []
            for _ in range(4):
                board.hop()
                got.append(board.count_now)
            self.assert_same(got, wanted)

    def test_the_caller_that_is_told(self):
        chain = [phone('a', (DAY, 'b', '', '', '')), phone('b', (DAY, 'g', '', '', ''), shows='own'), group('g', 'x', after='c', shows='own'),
                 phone('c', (DAY, 'v', '', '', '')), ('box', 'v', 0), phone('x', PLAIN)]
        board = self.led(house(*chain), ('stand', 'x', 'off'), ('call', 'a'))
        got = [board.told_now]
        for _ in range(4):
            board.hop()
            got.append(board.told_now)
        self.assert_same(got, ['', '', 'b', 'g', 'g'])
        self.assert_same([board.hop(), board.told_now], ['', ''])
        again = self.led(HOUSE, ('stand', 'ann', 'busy'), ('stand', 'bob', 'unheard'), ('call', 'bob'), 2)
        self.assert_same([again.at_now, again.told_now], [('bob', 'ann', 'bob'), 'bob'])

    def test_limits(self):
        chain = [phone('a', (DAY, 'b', '', '', '')), phone('b', (DAY, 'c', '', '', '')), phone('c', (DAY, 'd', '', '', '')), ('box', 'd', 0)]
        one = house(*chain)
        for limit, at, end in ((0, 'a', 'cut'), (1, 'b', 'cut'), (2, 'c', 'cut'), (3, 'd', 'boxed'), (4, 'd', 'boxed'), (None, 'd', 'boxed')):
            board = self.led(one, ('call', 'a'), limit=limit)
            while board:
                where = board.at_now[-1]
                board.hop()
            self.assert_same((where, board.ends_now, board.count_now), (at, ((end, at),), 0))

    def test_a_limit_cuts_just_where_the_call_is_to_be_led_on(self):
        one = house(phone('a', ((), '', 'a', '', '')), phone('b'), VOX)
        # What ends is not cut, whatever the count.
        self.assert_same(self.led(one, ('call', 'b'), 1, limit=0).ends_now, (('answered', 'b'),))
        self.assert_same(self.led(one, ('call', 'vox'), 1, limit=0).ends_now, (('boxed', 'vox'),))
        board = self.led(one, ('stand', 'a', 'busy'), ('call', 'a'), 2, limit=2)
        self.assert_same([board.count_now, board.stand('a', 'off'), board.hop(), board.ends_now], [2, 'a', '', (('off', 'a'),)])
        board = self.led(one, ('stand', 'a', 'busy'), ('call', 'a'), 2, limit=2)
        self.assert_same([board.hop(), board.ends_now], ['', (('cut', 'a'),)])

    def test_a_limit_where_counts_are_lost(self):
        one = house(phone('a', (DAY, 'b', '', '', '')), phone('b', (DAY, 'a', '', '', ''), side=1), border=('kept', 'lost'))
        board = self.led(one, ('call', 'a'), 38, limit=2)
        self.assert_same([len(board), board.count_now, board.ends_now], [39, 1, ()])
        self.assert_same(self.led(one, ('call', 'a'), 3, limit=1).ends_now, (('cut', 'a'),))
        self.assert_same(self.led(one, ('call', 'b'), 1, limit=1).ends_now, ())

    def test_settings_and_standings_change_amid_a_call(self):
        board = Board(HOUSE)
        board.do_all(('hour', 1), ('stand', 'bob', 'unheard'), ('call', 'bob'))
        self.assert_same([board.rung_now, board.choose('bob', LATE), board.rung_now, board.book_now[1]], [('bob',), 'bob', (), LATE])
        self.assert_same([board.course_to('bob'), board.hop(), board.told_now], [(('bob', 'vox'), ('boxed', 'vox')), 'vox', 'bob'])
        self.assert_same([board.choose('bob', BOB[4][0]), board.at_now, board.hop()], ['vox', ('bob', 'vox'), ''])

    def test_calls_one_behind_the_other(self):
        board = Board(HOUSE)
        got = [board.place_call('vox'), board.hop(), board.place_call('ann'), board.drop(), board.place_call('desk'), board.hop(), board.ends_now]
        self.assert_same(got, ['vox', '', 'ann', '', 'desk', '', (('boxed', 'vox'), ('dropped', 'ann'), ('answered', 'ann'))])
        self.assert_same([board.mark('m'), board.set_hour(3), board.place_call('bob'), board.mark('n'), board.stand('ann', 'off')],
                         ['', '', 'bob', 'bob', 'bob'])


class TestReasons(BoardCase):

    def full(self, one=HOUSE, *first):
        """A board with as many events as there may be."""
        board = Board(one)
        board.do_all(*first)
        for k in range(40 - len(first)):
            board.mark('m' + 'ab'[k // 26] + 'abcdefghijklmnopqrstuvwxyz'[k % 26])
        return board

    def test_shape(self):
        board = Board(HOUSE)
        for odd in (*ODD, HOUSE, CALL, 'hop', ['hop'], ('hop', None), ('hour', 24), ('hour', True), ('set', 'ann'), ('undo',), ('mark', 'M')):
            with self.subTest(odd=odd):
                self.assert_refused(board, odd, 'shape')

    def test_full(self):
        board = self.full()
        self.assert_same(len(list(board)), 40)
        for event in (('hour', 3), ('hour', 0), ('hop',), ('drop',), ('call', 'ann'), ('call', 'nobody'), ('mark', 'x'), ('mark', 'maa'),
                      ('set', 'ann', ANN[4][0]), ('set', 'eve', PLAIN), ('stand', 'ann', 'off'), ('stand', 'vox', 'off')):
            self.assert_refused(board, event, 'full')
        for odd in (None, ('hop', 1), ['hop'], ('hour', 24)):
            self.assert_refused(board, odd, 'shape')
        self.assert_same([board.undo(), board.barred(('hour', 3)), board.set_hour(3)], [('mark', 'mbn'), None, ''])
        self.assert_refused(board, ('hour', 4), 'full')
        calling = self.full(HOUSE, ('call', 'ann'))
        for event in (('hop',), ('drop',), ('hour', 0), ('hour', 5), ('call', 'ann')):
            self.assert_refused(calling, event, 'full')

    def test_hour(self):
        board = Board(HOUSE)
        self.assert_refused(board, ('hour', 0), 'same')
        board.set_hour(5)
        self.assert_refused(board, ('hour', 5), 'same')
        board.place_call('ann')
        self.assert_refused(board, ('hour', 6), 'call')
        self.assert_refused(board, ('hour', 5), 'call')
        board.drop()
        self.assert_same([board.barred(('hour', 6)), board.set_hour(0), board.hour_now], [None, '', 0])

    def test_set(self):
        board = Board(HOUSE)
        for name in ('eve', 'desk', 'vox', 'm'):
            self.assert_refused(board, ('set', name, BOB[4][0]), 'name')
            self.assert_refused(board, ('set', name, PLAIN), 'name')
        for setting in (PLAIN, ANN[4][0], ((0,), 'vox', '', 'ann', ''), ((0, 1), 'vox', '', '', ''), ((), '', '', 'eve', '')):
            self.assert_refused(board, ('set', 'bob', setting), 'setting')
        self.assert_refused(board, ('set', 'bob', BOB[4][0]), 'same')
        self.assert_refused(board, ('set', 'ann', ANN[4][0]), 'same')
        board.choose('bob', LATE)
        self.assert_refused(board, ('set', 'bob', LATE), 'same')
        self.assert_same([board.barred(('set', 'bob', BOB[4][0])), board.book_now], [None, (ANN[4][0], LATE)])

    def test_stand(self):
        board = Board(HOUSE)
        for name in ('eve', 'desk', 'vox', 'm'):
            self.assert_refused(board, ('stand', name, 'off'), 'name')
            self.assert_refused(board, ('stand', name, 'answers'), 'name')
        self.assert_refused(board, ('stand', 'bob', 'answers'), 'same')
        for standing in ('busy', 'off', 'unheard', 'answers'):
            board.stand('bob', standing)
            self.assert_refused(board, ('stand', 'bob', standing), 'same')
            self.assert_same(board.standings_now, ('answers', standing))

    def test_call(self):
        board = Board(HOUSE)
        for name in ('eve', 'm', 'abcdefgh'):
            self.assert_refused(board, ('call', name), 'name')
        board.place_call('desk')
        for name in ('desk', 'ann', 'bob', 'vox'):
            self.assert_refused(board, ('call', name), 'call')
        self.assert_refused(board, ('call', 'eve'), 'name')
        board.hop()
        self.assert_same([board.place_call('vox'), board.at_now], ['vox', ('vox',)])

    def test_hop_and_drop(self):
        board = Board(HOUSE)
        for _ in range(2):
            for word in ('hop', 'drop'):
                self.assert_refused(board, (word,), 'none')
            board.do_all(('call', 'ann'), ('hop',))

    def test_mark(self):
        board = Board(HOUSE)
        self.assert_same([board.mark('m'), board.mark('ann')], ['', ''])
        self.assert_refused(board, ('mark', 'm'), 'twice')
        self.assert_refused(board, ('mark', 'ann'), 'twice')
        board.undo()
        self.assert_same([board.barred(('mark', 'm')), board.mark('ann')], ['twice', ''])

    def test_a_reason_goes_with_what_is_now(self):
        board = Board(HOUSE)
        board.stand('ann', 'busy')
        self.assert_same([board.barred(('stand', 'ann', 'busy')), board.barred(event=('stand', 'ann', 'answers'))], ['same', None])
        for event in (('hour', 9), ('set', 'bob', LATE), ('stand', 'bob', 'off'), ('call', 'vox'), ('mark', 'x')):
            self.assert_same(board.barred(event), None)


class TestMethods(BoardCase):

    def test_happen_and_the_methods_do_the_same(self):
        rows = (
            ('set_hour', ('hour', 4)), ('choose', ('set', 'bob', LATE)), ('stand', ('stand', 'ann', 'busy')), ('place_call', ('call', 'ann')),
            ('mark', ('mark', 'm')), ('hop', ('hop',)), ('stand', ('stand', 'bob', 'off')), ('drop', ('drop',)), ('place_call', ('call', 'desk')))
        one, two, three = Board(HOUSE), Board(HOUSE), Board(HOUSE)
        same = three
        for name, event in rows:
            self.assert_same(getattr(one, name)(*event[1:]), two.happen(event))
            three += event
            self.assertTrue(one == two == three and three is same)
            self.assert_told(one, HOUSE, None, tuple(one))
        self.assert_same([one.counts(), two.counts(), three.counts()], [(9, 9)] * 3)
        four = Board(HOUSE)
        four.set_hour(hour=4)
        four.choose(setting=LATE, name='bob')
        four.stand(standing='busy', name='ann')
        four.place_call(name='ann')
        four.mark(name='m')
        self.assert_same([four.happen(event=('hop',)), list(four)], ['bob', [event for _, event in rows[:6]]])

    def test_any_values_are_refused_as_by_happen(self):
        board = Board(HOUSE)
        for odd in (*NO_HOURS, *ODD):
            self.assert_refused(board, ('hour', odd), 'shape', board.set_hour, odd)
        for odd in (*NO_NAMES, *ODD):
            if odd != 'nobody':
                for event, action in ((('call', odd), board.place_call), (('mark', odd), board.mark)):
                    self.assert_refused(board, event, 'shape', action, odd)
                self.assert_refused(board, ('set', odd, PLAIN), 'shape', board.choose, odd, PLAIN)
                self.assert_refused(board, ('stand', odd, 'off'), 'shape', board.stand, odd, 'off')
        for odd in NO_SETTINGS:
            self.assert_refused(board, ('set', 'ann', odd), 'shape', board.choose, 'ann', odd)
        for odd in NO_STANDINGS:
            self.assert_refused(board, ('stand', 'ann', odd), 'shape', board.stand, 'ann', odd)
        self.assert_refused(board, ('set', None, None), 'shape', board.choose, None, None)

    def test_the_other_reasons_by_the_methods(self):
        board = Board(HOUSE)
        self.assert_refused(board, ('hour', 0), 'same', board.set_hour, 0)
        self.assert_refused(board, ('set', 'eve', PLAIN), 'name', board.choose, 'eve', PLAIN)
        self.assert_refused(board, ('set', 'ann', PLAIN), 'setting', board.choose, 'ann', PLAIN)
        self.assert_refused(board, ('stand', 'desk', 'off'), 'name', board.stand, 'desk', 'off')
        self.assert_refused(board, ('stand', 'ann', 'answers'), 'same', board.stand, 'ann', 'answers')
        self.assert_refused(board, ('call', 'eve'), 'name', board.place_call, 'eve')
        self.assert_refused(board, ('hop',), 'none', board.hop)
        self.assert_refused(board, ('drop',), 'none', board.drop)
        board.mark('m')
        self.assert_refused(board, ('mark', 'm'), 'twice', board.mark, 'm')
        board.place_call('ann')
        self.assert_refused(board, ('hour', 3), 'call', board.set_hour, 3)
        self.assert_refused(board, ('call', 'ann'), 'call', board.place_call, 'ann')

    def test_the_sign(self):
        board = same = Board(HOUSE)
        for odd in (None, ('hop',), ('hour', 0), ['hop'], ('call', 'eve'), 'hop'):
            before = all_of(board)
            with self.subTest(odd=odd):
                try:
                    board += odd
                except boards.InvalidEvent as error:
                    self.assert_same((error.event, error.reason), (odd, same.barred(odd)))
                else:
                    raise AssertionError('no error was raised')
            self.assertIs(board, same)
            self.assert_same(all_of(board), before)
        board += ('call', 'vox')
        self.assert_same([board is same, same.at_now, same.counts()], [True, ('vox',), (7, 7)])


class TestBesideTheSlowModel(BoardCase):

    def lead(self, chance, one, limit, many):
        """Lead a board by chance, and hold it beside the slow model at each event."""
        board, events, reasons = Board(one, limit=limit), [], []
        for k in range(many):
            event = some_event(chance, one)
            wanted = reason(one, state_behind(one, limit, events), len(events), event)
            self.assert_same(board.barred(event), wanted)
            if wanted is None:
                events.append(event)
                self.assert_same(board.happen(event), looks(one, limit, events)['place'])
            else:
                reasons.append(wanted)
                self.assert_same(error_of(board.happen, event), ('InvalidEvent', {'event': event, 'reason': wanted}))
            self.assert_told(board, one, limit, tuple(events))
            self.assert_same(board.counts(), (k + 1, k + 1))
        return reasons

    def test_tiny_houses(self):
        chance = chance_of(610)
        for one in tiny_houses(50, 610):
            self.lead(chance, one, chance.choice([None, None, 0, 1, 2, 3]), 30)

    def test_houses_at_the_limits(self):
        chance = chance_of(611)
        found = []
        for seed in range(6):
            one = great_house(seed, seed % 3, seed % 4, 0.3)
            found += self.lead(chance, one, (None, 4, None, 2, None, 9)[seed], 110)
        self.assertLessEqual({'full', 'call', 'none', 'same', 'name'}, set(found))


if __name__ == '__main__':
    unittest.main()
