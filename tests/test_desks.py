"""Points 59 and 70: a desk, told of and asked about by rows."""

import unittest

from ledcalls import desks
from ledcalls.boardlogs import replayed
from ledcalls.boards import Board
from ledcalls.boardtexts import event_line, story_lines
from ledcalls.desks import Desk
from ledcalls.houseclasses import House
from oracle import tiny_houses
from samples import ANN, BOB, HOUSE, NO_STRINGS, ODD, VOX, Strict, error_of, house, phone
from slowboard import chance_of, looks, reason, some_event, state_behind
from test_boardtexts import HOUSE_LINES, LINES

ROWS = ('story', 'table', 'hour', 'limit', 'count', 'told', 'at', 'rung', 'standings', 'ends', 'tally')
NEW = '\n'.join(['board 5 9', *HOUSE_LINES])
SMALL = 'board - 2\nborder kept kept\nbox vox 1'
# None of these is a row.
NO_ROWS = (
    '', ' ', '-', 'Undo', 'undo ', ' undo', 'undo undo', 'undo\n', 'story ', 'tables', 'at at', 'count ', 'counts', 'hours', 'hour ', 'hour 24', 'hour x', 'limit 3',
    'told ann', 'rung ann', 'ends ann', 'tally boxed', 'standings ann', 'bars', 'bars ', 'bars undo', 'bars story', 'bars bars hop', 'bars hop ', 'bars  hop',
    'bars hour', 'bars hour 24', 'bars\nhop', 'Bars hop', 'course', 'course ', 'course Ann', 'course ann ', 'course  ann', 'course ann bob', 'course 9', 'course -',
    'course abcdefghi', 'course ann\n', 'ended', 'ended ', 'ended M', 'ended m m', 'ended m\n', 'ended -', 'ended abcdefghi', 'hop hop', 'hop\n', 'hop\nhop', 'hop ', ' hop',
    'call', 'call Ann', 'call ann bob', 'set bob', 'set bob - - - -', 'stand ann', 'stand ann Off', 'drop ann', 'mark', 'ok', 'round', 'board', 'board - 9', 'board 5 9',
    'trial', 'rehearsed', 'full', 'at\n', 'undo -', '\n', 'board - 2\nborder kept kept', f'{SMALL}\n', f'{SMALL}\nhop', f'{SMALL}\ncall vox', f'\n{SMALL}', f' {SMALL}',
    f'{NEW}\nhop', NEW.replace('board 5 9', 'board 5 8'), NEW.replace('box vox', 'box vax'), NEW.replace('\n', ' '), NEW.replace('board 5', 'board x'), NEW.upper(),
    # These write triples by form that are no houses.
    'board - 3\nborder kept kept\nbox vox 1\nbox vox 1', 'board - 3\nborder kept kept\nphone a 0 own\nsetting - - b - -', 'board 3 2\nborder kept kept\ngroup g 0 own turns - g')


class TestDesk(Strict):

    def assert_says(self, desk, **rows):
        for row, answer in rows.items():
            self.assert_same((row, desk.say(row)), (row, answer))

    def test_listed_methods(self):
        for name in ('__init__', 'say', 'counts'):
            self.assertIn(name, vars(Desk))
        self.assert_same((Desk.__module__, Desk.__bases__), (desks.__name__, (object,)))

    def test_of_the_document(self):
        desk = Desk(HOUSE)
        got = [desk.say(row) for row in ('call desk', 'rung', 'hop', 'ends', 'bars hop', 'course bob', 'undo', 'at')]
        self.assert_same(got, ['desk', 'ann', '-', 'answered@ann', 'none', 'bob answered@bob', 'hop', 'desk'])

    def test_at_first(self):
        desk = Desk(house=HOUSE)
        self.assert_says(desk, story='-', table='ann 0:answers 0 - / bob 0:answers 0 - / desk - 0 - / vox - 0 -', hour='0', limit='-', count='0', told='-', at='-',
                         rung='-', standings='answers answers', ends='-', tally='-')
        self.assert_same(desk.counts(), (11, 11))
        boxes = Desk(house(VOX))
        self.assert_says(boxes, standings='-', table='vox - 0 -')

    def test_events(self):
        desk = Desk(HOUSE)
        for row, answer in (
                ('hour 1', '-'), ('mark m', '-'), ('stand ann busy', '-'), ('stand bob unheard', '-'), ('call ann', 'ann'), ('hop', 'bob'), ('mark n', 'bob'), ('hop', 'ann'),
                ('set bob 0,1 vox - ann -', 'ann'), ('hop', 'bob'), ('hop', 'vox'), ('drop', '-'), ('call desk', 'desk'), ('stand ann off', 'desk'), ('hop', 'vox')):
            self.assert_same((row, desk.say(row)), (row, answer))
        self.assert_says(
            desk, at='desk vox', rung='-', count='0', told='-', hour='1', ends='dropped@vox', tally='dropped@1', standings='off unheard', limit='-',
            table='ann 0:off 0 - / bob 1:unheard 0 - / desk - 1 - / vox - 1 *')
        self.assert_same(
            desk.say('story'), 'hour 1 / mark m / stand ann busy / stand bob unheard / call ann / hop / mark n / hop / set bob 0,1 vox - ann - / hop / hop / drop'
            ' / call desk / stand ann off / hop')
        self.assert_same([desk.say('ended m'), desk.say('ended n'), desk.say('hop'), desk.say('ended n'), desk.say('mark x'), desk.say('ended x')],
                         ['dropped@vox', 'dropped@vox', '-', 'dropped@vox boxed@vox', '-', '-'])
        self.assert_same([desk.say('undo'), desk.say('undo'), desk.say('ends'), desk.say('at')], ['mark x', 'hop', 'dropped@vox', 'desk vox'])

    def test_several_words(self):
        one = house(phone('a'), phone('b'), ('group', 'g', 0, 'own', 'together', ('b', 'a'), 'v'), ('box', 'v', 0))
        desk = Desk(one)
        self.assert_same([desk.say(row) for row in ('call g', 'rung', 'hop', 'stand a off', 'stand b unheard', 'call g', 'hop', 'count', 'told', 'at', 'hop', 'ends', 'tally')],
                         ['g', 'b a', '-', '-', '-', 'g', 'v', '1', 'g', 'g v', '-', 'answered@b boxed@v', 'answered@1 boxed@1'])
        self.assert_same([desk.say('course g'), desk.say('course a'), desk.say('standings')], ['g v boxed@v', 'a off@a', 'off unheard'])
        self.assert_same([desk.say('call v'), desk.say('drop'), desk.say('tally')], ['v', '-', 'answered@1 boxed@1 dropped@1'])

    def test_bars(self):
        desk = Desk(HOUSE)
        rows = (('bars hop', 'none'), ('bars drop', 'none'), ('bars hour 0', 'same'), ('bars hour 23', '-'), ('bars call ann', '-'), ('bars call eve', 'name'),
                ('bars set ann - - - - -', 'setting'), ('bars set bob 0,1 vox - ann -', '-'), ('bars set eve - - - - -', 'name'), ('bars stand ann answers', 'same'),
                ('bars stand ann off', '-'), ('bars mark m', '-'))
        for row, answer in rows:
            self.assert_same((row, desk.say(row)), (row, answer))
        self.assert_same([desk.say('story'), desk.say('mark m'), desk.say('bars mark m'), desk.say('call vox'), desk.say('bars hour 5')], ['-', '-', 'twice', 'vox', 'call'])
        for k in range(38):
            desk.say('mark x' + 'abcdefghijklmnopqrstuvwxyz'[k % 26] * (k // 26 + 1))
        self.assert_same([desk.say('bars hop'), desk.say('undo'), desk.say('bars hop')], ['full', 'mark xll', '-'])

    def test_a_new_board(self):
        desk = Desk(house(VOX))
        self.assert_same([desk.say('call vox'), desk.say(NEW), desk.say('at'), desk.say('limit'), desk.say('story'), desk.say('call ann')], ['vox', 'ok', '-', '5', '-', 'ann'])
        for limit in ('-', '0', '1', '9' * 60):
            self.assert_same([desk.say(f'board {limit}' + NEW[7:]), desk.say('limit'), desk.say('table')],
                             ['ok', limit, 'ann 0:answers 0 - / bob 0:answers 0 - / desk - 0 - / vox - 0 -'])
        desk.say('board 0' + NEW[7:])
        self.assert_same([desk.say('stand ann busy'), desk.say('call ann'), desk.say('hop'), desk.say('ends'), desk.say(SMALL), desk.say('table'), desk.counts()],
                         ['-', 'ann', '-', 'cut@ann', 'ok', 'vox - 0 -', (25, 25)])

    def test_rows_that_are_none(self):
        desk = Desk(HOUSE)
        desk.say('call ann')
        for k, row in enumerate(NO_ROWS, start=2):
            with self.subTest(row=row):
                self.assert_same(error_of(desk.say, row), ('InvalidRow', {'row': row}))
                self.assert_same(desk.counts(), (k, k))
        self.assert_same([desk.say('story'), desk.say('limit'), desk.say('at')], ['call ann', '-', 'ann'])
        for row in ODD:
            if isinstance(row, str):
                self.assert_same(error_of(desk.say, row), ('InvalidRow', {'row': row}))

    def test_errors_of_the_board(self):
        desk = Desk(HOUSE)
        self.assert_same(error_of(desk.say, 'undo'), ('NothingToUndo', {'steps': 0}))
        for row, event, why in (('hop', ('hop',), 'none'), ('hour 0', ('hour', 0), 'same'), ('call eve', ('call', 'eve'), 'name'),
                                ('set ann - - - - -', ('set', 'ann', ((), '', '', '', '')), 'setting'), ('stand vox off', ('stand', 'vox', 'off'), 'name')):
            self.assert_same(error_of(desk.say, row), ('InvalidEvent', {'event': event, 'reason': why}))
        for row in ('course eve', 'course m', 'ended eve', 'ended ann', 'ended m'):
            self.assert_unusable('name', desk.say, row)
        self.assert_same([desk.counts(), desk.say('mark ann'), desk.say('ended ann')], [(11, 11), '-', '-'])
        desk.say('undo')
        self.assert_unusable('name', desk.say, 'ended ann')
        self.assert_same([desk.counts(), desk.say('story')], [(15, 15), '-'])

    def test_not_usable(self):
        for odd in (*ODD, HOUSE[:2], house(BOB, VOX), House(*HOUSE), Board(HOUSE)):
            self.assert_unusable('house', Desk, odd)
        desk = Desk(HOUSE)
        odd_rows = (*NO_STRINGS, ('hop',), ['hop'], b'hop', HOUSE, ANN, 0)
        for k, odd in enumerate(odd_rows, start=1):
            self.assert_unusable('row', desk.say, odd)
            self.assert_same(desk.counts(), (k, k))
        self.assert_same([desk.say(row='hour'), desk.counts()], ['0', (len(odd_rows) + 1,) * 2])

    def test_beside_the_slow_model(self):
        chance = chance_of(700)
        for one in tiny_houses(40, 700):
            desk, limit, events = Desk(one), None, []
            for _ in range(25):
                event = some_event(chance, one)
                why = reason(one, state_behind(one, limit, events), len(events), event)
                self.assert_same(desk.say(f'bars {event_line(event)}'), why or '-')
                if chance.random() < 0.1:
                    limit, events = chance.choice([None, 0, 1, 2]), []
                    self.assert_same(desk.say('\n'.join(story_lines((('board', one, limit),)))), 'ok')
                elif why is None:
                    events.append(event)
                    self.assert_same(desk.say(event_line(event)), looks(one, limit, events)['place'] or '-')
                elif events and chance.random() < 0.5:
                    self.assert_same(desk.say('undo'), event_line(events.pop()))
                else:
                    self.assert_same(error_of(desk.say, event_line(event)), ('InvalidEvent', {'event': event, 'reason': why}))
                self.assert_answers(desk, looks(one, limit, events), events)

    def assert_answers(self, desk, told, events):
        """Each row is answered by what the slow model tells."""
        limit = '-' if told['limit'] is None else str(told['limit'])
        wanted = {
            'story': ' / '.join(event_line(event) for event in events), 'table': ' / '.join(told['table']), 'hour': str(told['hour']), 'limit': limit,
            'count': str(told['count']), 'told': told['told'], 'at': ' '.join(told['at']), 'rung': ' '.join(told['rung']), 'standings': ' '.join(told['standings']),
            'ends': ' '.join(f'{word}@{name}' for word, name in told['ends']), 'tally': ' '.join(f'{word}@{many}' for word, many in told['tally'])}
        self.assert_same(sorted(wanted), sorted(ROWS))
        for row, answer in wanted.items():
            self.assert_same((row, desk.say(row)), (row, answer or '-'))
        for name, (names, (word, who)) in told['courses'].items():
            self.assert_same(desk.say(f'course {name}'), ' '.join([*names, f'{word}@{who}']))
        for name, ends in told['since'].items():
            self.assert_same(desk.say(f'ended {name}'), ' '.join(f'{word}@{who}' for word, who in ends) or '-')

    def test_each_event_line(self):
        desk = Desk(HOUSE)
        for event, line in LINES:
            board = replayed((('board', HOUSE, None),))
            why = board.barred(event)
            self.assert_same(desk.say(f'bars {line}'), why or '-')


if __name__ == '__main__':
    unittest.main()
