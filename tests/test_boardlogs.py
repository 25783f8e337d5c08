"""Points 9 (L5), 59 and 68: stories of boards, and boards that are led by them."""

import unittest

from ledcalls.boardlogs import is_story, replayed
from ledcalls.boards import Board
from ledcalls.houseclasses import House
from oracle import tiny_houses
from samples import ANN, BOB, HOUSE, ODD, VOX, error_of, house
from slowboard import chance_of, reason, some_event, some_story, state_behind
from test_boardevents import GOOD
from test_boards import BoardCase

HEAD = ('board', HOUSE, None)
EVENTS = (('stand', 'ann', 'busy'), ('call', 'ann'), ('hop',))
# None of these is a story.
NO_STORIES = (
    *ODD, HOUSE, HEAD, [HEAD], [HEAD, *EVENTS], (list(HEAD),), (HEAD[:2],), ((*HEAD, None),), (('Board', HOUSE, None),), (('', HOUSE, None),),
    ((None, HOUSE, None),), ((('board',), HOUSE, None),), ((True, HOUSE, None),), (('board', None, None),), (('board', HOUSE[:2], None),),
    (('board', list(HOUSE), None),), (('board', house(BOB, VOX), None),), (('board', house(VOX, VOX), None),), (('board', House(*HOUSE), None),),
    (('board', HOUSE, -1),), (('board', HOUSE, True),), (('board', HOUSE, False),), (('board', HOUSE, '3'),), (('board', HOUSE, ()),),
    (('board', HOUSE, [3]),), (('board', None, HOUSE),), EVENTS, (*EVENTS, HEAD), (HEAD, None), (HEAD, ('hop', 1)), (HEAD, ['hop']),
    (HEAD, *EVENTS, ('hour', 24)), (HEAD, ('hour', True)), (HEAD, EVENTS), (HEAD, HEAD), (HEAD, ('undo',)), (HEAD, 'hop'), (HEAD, ('mark', 'M'), *EVENTS))


class TestStories(BoardCase):

    def test_stories(self):
        self.assert_same(is_story((HEAD,)), True)
        self.assert_same(is_story(thing=(HEAD, *EVENTS)), True)
        for limit in (None, 0, 1, 10 ** 59):
            self.assert_same(is_story((('board', house(VOX), limit),)), True)
        # Its events may be possible or not, and more than a board has.
        self.assert_same(is_story((HEAD, *GOOD, *GOOD)), True)
        self.assert_same(is_story((HEAD, *[('hop',)] * 100)), True)
        for event in GOOD:
            self.assert_same(is_story((HEAD, event)), True)

    def test_other_values(self):
        for thing in (*NO_STORIES, Board(HOUSE)):
            with self.subTest(thing=thing):
                self.assert_same(is_story(thing), False)

    def test_replayed(self):
        board = replayed((('board', HOUSE, 5), *EVENTS))
        self.assertIs(board.__class__, Board)
        self.assert_told(board, HOUSE, 5, EVENTS)
        self.assert_same([board.counts(), replayed(story=(HEAD,)).counts()], [(0, 0), (0, 0)])
        board.hop()
        self.assert_same([board.counts(), board.undo(), board.counts()], [(1, 1), ('hop',), (2, 2)])
        other = replayed(board.story())
        other.drop()
        self.assert_same([board == other, board.at_now], [False, ('ann', 'bob')])

    def test_the_first_error(self):
        for events, event, why in (
                ((('hop',),), ('hop',), 'none'), ((*EVENTS, ('hour', 0), ('call', 'eve')), ('hour', 0), 'call'), ((('call', 'eve'), ('hop',)), ('call', 'eve'), 'name'),
                ((('set', 'ann', ((), '', '', '', '')),), ('set', 'ann', ((), '', '', '', '')), 'setting'),
                ((('mark', 'a'), ('mark', 'a'), ('hop',)), ('mark', 'a'), 'twice'), ((('call', 'ann'), *[('hop',)] * 3), ('hop',), 'none'),
                ((('stand', 'ann', 'busy'), ('stand', 'bob', 'unheard'), ('call', 'ann'), *[('hop',)] * 38), ('hop',), 'full')):
            self.assert_same(error_of(replayed, (HEAD, *events)), ('InvalidEvent', {'event': event, 'reason': why}))

    def test_beside_the_slow_model(self):
        chance = chance_of(680)
        for one in tiny_houses(60, 680):
            limit = chance.choice([None, 0, 1, 2])
            events = [*some_story(chance, one, limit, 12), *[some_event(chance, one) for _ in range(4)]]
            fault = None
            for k, event in enumerate(events):
                why = reason(one, state_behind(one, limit, events[:k]), k, event)
                if why is not None:
                    fault = ('InvalidEvent', {'event': event, 'reason': why})
                    break
            story = (('board', one, limit), *events)
            self.assert_same(is_story(story), True)
            if fault is None:
                self.assert_told(replayed(story), one, limit, tuple(events))
                self.assert_same(replayed(story).story(), story)
            else:
                self.assert_same(error_of(replayed, story), fault)
                self.assert_told(replayed(story[:k + 1]), one, limit, tuple(events[:k]))

    def test_not_usable(self):
        self.assert_each_unusable('story', (*NO_STORIES, Board(HOUSE), ANN), replayed)


if __name__ == '__main__':
    unittest.main()
