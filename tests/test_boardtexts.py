"""Points 19, 59 and 69: lines of events and of stories."""

import unittest

from ledcalls.boardreadings import read_event, read_story
from ledcalls.boards import Board
from ledcalls.boardtexts import event_line, story_lines
from ledcalls.houseclasses import House
from ledcalls.housetexts import house_text
from oracle import great_house, tiny_houses
from samples import ANN, BOB, DESK, HOUSE, ODD, VOX, Strict, group, house, phone
from slowboard import chance_of, some_story
from test_boardevents import GOOD
from test_boardlogs import NO_STORIES

LINES = (
    (('hour', 0), 'hour 0'), (('hour', 23), 'hour 23'), (('set', 'bob', BOB[4][1]), 'set bob 0,1 vox - ann -'),
    (('set', 'ann', ((), '', '', '', '')), 'set ann - - - - -'), (('set', 'x', ((0, 9, 10, 23), 'a', 'b', 'c', 'd')), 'set x 0,9,10,23 a b c d'),
    (('stand', 'ann', 'answers'), 'stand ann answers'), (('stand', 'nobody', 'off'), 'stand nobody off'), (('call', 'desk'), 'call desk'),
    (('hop',), 'hop'), (('drop',), 'drop'), (('mark', 'hour'), 'mark hour'))
HOUSE_LINES = [
    'border kept lost', 'phone ann 0 kept', 'setting - - bob desk -', 'phone bob 1 own', 'setting - - - ann -', 'setting 0,1 vox - ann -',
    'group desk 0 kept turns vox ann bob', 'box vox 1', 'bar bob vox']


class TestEventLines(Strict):

    def test_lines(self):
        for event, line in LINES:
            self.assert_same(event_line(event), line)
            self.assert_same(event_line(event=event), line)

    def test_there_and_back(self):
        for event in GOOD:
            self.assert_same(read_event(event_line(event)), event)

    def test_not_usable(self):
        self.assert_each_unusable(
            'event', (*ODD, HOUSE, 'hop', ['hop'], ('hop', None), ('hour', 24), ('hour', True), ('set', 'bob', BOB[4]), ('call',), ('undo',),
                      ('board', HOUSE, None), (('hop',),), ('mark', 'M'), ('stand', 'ann', 'of')), event_line)


class TestStoryLines(Strict):

    def test_lines(self):
        events = [event for event, _ in LINES]
        lines = [line for _, line in LINES]
        self.assert_same(story_lines((('board', HOUSE, None), *events)), ['board - 9', *HOUSE_LINES, *lines])
        self.assert_same(story_lines(story=(('board', HOUSE, 0),)), ['board 0 9', *HOUSE_LINES])
        self.assert_same(story_lines((('board', house(VOX), 10 ** 59), ('hop',))), [f'board {10 ** 59} 2', 'border kept kept', 'box vox 1', 'hop'])
        self.assert_same(
            story_lines((('board', (('kept', 'kept'), (), (VOX,)), None), ('call', 'vox'))), ['board - 2', 'border kept kept', 'box vox 1', 'call vox'])

    def test_the_list_belongs_to_the_caller(self):
        story = (('board', HOUSE, None), ('hop',))
        story_lines(story).clear()
        self.assert_same(len(story_lines(story)), 11)

    def test_of_boards(self):
        chance = chance_of(690)
        for one in [*tiny_houses(30, 690), *[great_house(seed, seed % 3, seed % 4, 0.3) for seed in range(4)]]:
            limit = chance.choice([None, 0, 1, 7])
            board = Board(one, limit=limit)
            board.do_all(*some_story(chance, one, limit, 12))
            rows = house_text(one).split('\n')
            head = f"board {'-' if limit is None else limit} {len(rows)}"
            self.assert_same(story_lines(board.story()), [head, *rows, *[event_line(event) for event in board]])
            self.assert_same(read_story(story_lines(board.story())), board.story())

    def test_a_triple_by_form_that_is_no_house(self):
        # What read_story returns may be written again, be it a story or not.
        for form in (house(BOB, VOX), house(VOX, VOX), house(group('g', 'g', after='no'), bars=(('x', 'y'),)), house(phone('a'), phone('a'))):
            story = (('board', form, 3), ('call', 'a'))
            lines = story_lines(story)
            self.assert_same(lines, [f'board 3 {len(lines) - 2}', *house_text(form).split('\n'), 'call a'])
            self.assert_same(read_story(lines), story)

    def test_not_usable(self):
        odd_forms = [
            (('kept', 'kept'), (), ()), (('kept', 'kept'), (), [VOX]), (('kept', 'own'), (), (VOX,)), (('kept', 'kept'), (('b', 'a'), ('a', 'b')), (VOX,)),
            (('kept', 'kept'), (('a',),), (VOX,)), (('kept', 'kept'), (), (VOX[:2],)), (('kept', 'kept'), (), (('box', 'vox', True),)), House(*HOUSE), DESK]
        forms = (house(BOB, VOX), house(VOX, VOX))
        odd = [thing for thing in NO_STORIES if not (isinstance(thing, tuple) and thing and isinstance(thing[0], tuple) and thing[0][1:2] and thing[0][1] in forms)]
        self.assert_each_unusable('story', (*odd, ANN, Board(HOUSE), *[(('board', form, None),) for form in odd_forms]), story_lines)


if __name__ == '__main__':
    unittest.main()
