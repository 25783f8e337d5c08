"""Points 59 and 64: what is tried, taken back, done together and rehearsed on boards, and what is counted."""

import unittest

from ledcalls.boardlogs import replayed
from ledcalls.boards import Board, rehearsed
from ledcalls.errors import Broken, InvalidEvent, LedError
from oracle import tiny_houses
from samples import BOB, HOUSE, ODD, Strict, error_of
from slowboard import chance_of, looks, reason, some_event, some_story, state_behind
from test_boards import BoardCase, all_of

LATE = BOB[4][1]
EVENTS = (('stand', 'ann', 'busy'), ('stand', 'bob', 'unheard'), ('mark', 'm'), ('call', 'ann'), ('hop',), ('hop',))
END = ('dropped', 'ann')


def led(*events, limit=None):
    """A board behind these events, with nothing counted."""
    return replayed((('board', HOUSE, limit), *events))


def fault_of(action, *things, **named):
    """The error that an action raises."""
    try:
        action(*things, **named)
    except LedError as error:
        return error
    raise AssertionError('no error was raised')


class TestTried(BoardCase):

    def test_nothing_changes(self):
        board = Board(HOUSE)
        board.place_call('ann')
        before = all_of(board)
        self.assert_same(board.tried(), (('ann',), ()))
        self.assert_same(board.tried(('stand', 'ann', 'busy'), ('hop',)), (('ann', 'bob'), ()))
        self.assert_same(board.tried(('hop',), ('call', 'desk'), ('mark', 'm')), (('desk',), (('answered', 'ann'),)))
        self.assert_same(board.tried(('drop',)), ((), (END,)))
        self.assert_same([board.barred(('hour', 3)), board.barred(('hop',)), board.barred(None)], ['call', None, 'shape'])
        self.assert_same([all_of(board), board.counts()], [before, (1, 1)])

    def test_the_first_that_is_refused(self):
        board = led(*EVENTS)
        before = all_of(board)
        for events, event, wanted in (
                ([('hour', 1)], ('hour', 1), 'call'), ([('hop',), None, ('hour', 1)], None, 'shape'), ([('drop',), ('hop',), None], ('hop',), 'none'),
                ([('mark', 'n'), ('mark', 'n')], ('mark', 'n'), 'twice'), ([('hop',)] * 34 + [('drop',)] * 2, ('drop',), 'full')):
            self.assert_same(error_of(board.tried, *events), ('InvalidEvent', {'event': event, 'reason': wanted}))
            self.assert_same([all_of(board), board.counts()], [before, (0, 0)])
        for odd in ODD:
            self.assert_same(error_of(board.tried, odd), ('InvalidEvent', {'event': odd, 'reason': 'shape'}))
        self.assert_same(board.tried(*[('hop',)] * 34), (('ann',) + ('bob', 'ann') * 18, ()))
        self.assert_same(board.counts(), (0, 0))

    def test_no_keywords(self):
        self.assertRaises(TypeError, Board(HOUSE).tried, event=('hop',))


class TestTrial(BoardCase):

    def test_what_is_done_is_undone_at_the_end(self):
        board = led(*EVENTS)
        before = all_of(board)
        with board.trial() as held:
            self.assertIs(held, board)
            self.assert_same([board.stand('ann', 'off'), board.hop(), board.mark('n'), board.set_hour(9)], ['ann', '', '', ''])
            self.assert_same([board.ends_now, board.hour_now, board.ended_since('m')], [(('off', 'ann'),), 9, (('off', 'ann'),)])
        self.assert_same([all_of(board), board.counts()], [before, (4, 4)])
        self.assert_unusable('name', board.ended_since, 'n')

    def test_what_is_taken_back_within_is_there_again(self):
        board = led(*EVENTS)
        before = all_of(board)
        with board.trial():
            self.assert_same([board.undo() for _ in range(6)], list(EVENTS[::-1]))
            self.assert_same(error_of(board.undo), ('NothingToUndo', {'steps': 0}))
            board.set_hour(7)
        self.assert_same([all_of(board), board.counts()], [before, (8, 8)])

    def test_behind_an_error(self):
        board = led(*EVENTS)
        before = all_of(board)
        for error in (KeyError, KeyboardInterrupt):
            with self.assertRaises(error):
                with board.trial():
                    board.drop()
                    raise error
            self.assert_same(all_of(board), before)
        with self.assertRaises(InvalidEvent):
            with board.trial() as held:
                held += ('drop',)
                held.happen(('drop',))
        with self.assertRaises(Broken):
            with board.trial():
                board.do_all(('drop',), ('hop',), keep=True)
        self.assert_same([all_of(board), board.counts()], [before, (5, 5)])

    def test_it_begins_with_the_call_of_trial(self):
        board = led(*EVENTS)
        before = all_of(board)
        trial = board.trial()
        board.drop()
        board.set_hour(3)
        with trial as held:
            self.assertIs(held, board)
            self.assert_same([board.ends_now, board.hour_now], [(END,), 3])
        self.assert_same(all_of(board), before)
        # The same trial undoes once more, back to the same beginning.
        board.hop()
        with trial:
            board.undo()
            board.undo()
        self.assert_same([all_of(board), board.counts()], [before, (5, 5)])
        self.assert_same(board.counts(), (5, 5))
        board.trial()
        board.drop()
        self.assert_same(board.ends_now, (END,))

    def test_one_within_another(self):
        board = led(*EVENTS)
        before = all_of(board)
        with board.trial():
            board.drop()
            middle = all_of(board)
            with board.trial():
                board.undo()
                board.undo()
                self.assert_same(board.tried(('hop',), ('drop',)), ((), (END,)))
                self.assert_same(rehearsed(board, ('hop',), ('hop',)), (('ann', 'bob', 'ann', 'bob'), ()))
                with board.trial():
                    board.do_all(('drop',), ('mark', 'x'))
                self.assert_same(board.at_now, ('ann', 'bob'))
            self.assert_same(all_of(board), middle)
        self.assert_same([all_of(board), board.counts()], [before, (5, 5)])

    def test_two_boards(self):
        one, two = led(*EVENTS), led()
        with one.trial(), two.trial():
            one.drop()
            two.set_hour(5)
            with two.trial():
                one.set_hour(6)
            self.assert_same([one.hour_now, two.hour_now], [6, 5])
        self.assert_same([one.hour_now, two.hour_now, one.at_now], [0, 0, ('ann', 'bob', 'ann')])


class TestUndo(BoardCase):

    def test_back_to_the_beginning(self):
        board = led(*EVENTS)
        for k in range(6, 0, -1):
            self.assert_told(board, HOUSE, None, EVENTS[:k])
            self.assert_same(board.undo(), EVENTS[k - 1])
        self.assert_told(board, HOUSE, None, ())
        for _ in range(2):
            self.assert_same(error_of(board.undo), ('NothingToUndo', {'steps': 0}))
        self.assert_same([board.counts(), board == Board(HOUSE)], [(8, 8), True])

    def test_a_moment_that_was_undone_has_no_name(self):
        board = led(('mark', 'm'), ('call', 'vox'), ('mark', 'n'), ('hop',))
        self.assert_same([board.ended_since('m'), board.ended_since('n')], [(('boxed', 'vox'),)] * 2)
        self.assert_same([board.undo(), board.undo()], [('hop',), ('mark', 'n')])
        self.assert_unusable('name', board.ended_since, 'n')
        self.assert_same([board.ended_since('m'), board.mark('n'), board.drop(), board.ended_since('n')], [(), 'vox', '', (('dropped', 'vox'),)])

    def test_what_ended_is_on_again(self):
        board = led(*EVENTS, ('drop',))
        self.assert_same([board.at_now, board.undo(), board.at_now, board.told_now, board.count_now], [(), ('drop',), ('ann', 'bob', 'ann'), 'bob', 1])
        board = led(*EVENTS[:2], ('call', 'ann'), ('hop',), ('hop',), limit=1)
        self.assert_same([board.hop(), board.ends_now, board.undo(), board.at_now, board.ends_now], ['', (('cut', 'ann'),), ('hop',), ('ann', 'bob', 'ann'), ()])


class TestDoAll(BoardCase):

    def assert_broken(self, board, events, done, why, **named):
        """So many events came before the one that is refused for this reason."""
        (many, _) = board.counts()
        error = fault_of(board.do_all, *events, **named)
        self.assert_same((error.__class__, vars(error)), (Broken, {'done': done}))
        cause = error.__cause__
        self.assert_same((cause.__class__, vars(cause)), (InvalidEvent, {'event': events[done], 'reason': why}))
        self.assert_same(board.counts(), (many + 1, many + 1))

    def test_all_fit(self):
        board = Board(HOUSE)
        self.assert_same([board.do_all(), board.do_all(*EVENTS), board.do_all(('drop',), keep=True), board.do_all(keep=False)], [0, 6, 1, 0])
        self.assert_told(board, HOUSE, None, (*EVENTS, ('drop',)))
        self.assert_same(board.counts(), (4, 4))

    def test_one_is_refused(self):
        for k in range(7):
            for odd, why in ((None, 'shape'), (('hour', 0), None), (('call', 'eve'), 'name'), (('stand', 'ann', 'answers'), None)):
                events = (*EVENTS[:k], odd, *EVENTS[k:], odd)
                wanted = why or (('same' if k < 4 else 'call') if odd[0] == 'hour' else 'same')
                if odd == ('stand', 'ann', 'answers') and k > 0:
                    continue
                for named in ({}, {'keep': False}):
                    board = led(('mark', 'first'))
                    before = all_of(board)
                    self.assert_broken(board, events, k, wanted, **named)
                    self.assert_same(all_of(board), before)
                board = led(('mark', 'first'))
                self.assert_broken(board, events, k, wanted, keep=True)
                self.assert_told(board, HOUSE, None, (('mark', 'first'), *EVENTS[:k]))

    def test_the_board_is_full_amid(self):
        events = tuple(('hop',) for _ in range(40))
        for keep in (False, True):
            board = led(*EVENTS[:4])
            self.assert_broken(board, events, 36, 'full', keep=keep)
            self.assert_same(len(list(board)), 40 if keep else 4)

    def test_keep_is_a_bool(self):
        board = led(*EVENTS)
        before = all_of(board)
        odd_keeps = [odd for odd in (*ODD, 0, 1, 'keep', HOUSE) if not isinstance(odd, bool)]
        for k, odd in enumerate(odd_keeps, start=1):
            self.assert_unusable('keep', board.do_all, ('drop',), keep=odd)
            self.assert_unusable('keep', board.do_all, None, keep=odd)
            self.assert_unusable('keep', board.do_all, keep=odd)
            self.assert_same([all_of(board), board.counts()], [before, (3 * k, 3 * k)])

    def test_a_keep_by_position_is_an_event(self):
        board = led()
        self.assert_broken(board, (('call', 'ann'), True), 1, 'shape')
        self.assert_same(list(board), [])


class TestRehearsed(BoardCase):

    def test_the_board_is_as_before(self):
        board = led(*EVENTS[:4])
        before = all_of(board)
        self.assert_same(rehearsed(board, ('hop',), ('hop',), ('mark', 'x')), (('ann', 'bob', 'ann'), ()))
        self.assert_same([all_of(board), board.counts()], [before, (1, 1)])
        self.assert_same([rehearsed(board), rehearsed(board, ('drop',))], [(('ann',), ()), ((), (END,))])
        self.assert_same([all_of(board), board.counts()], [before, (3, 3)])

    def test_its_error(self):
        board = led(*EVENTS[:4])
        before = all_of(board)
        error = fault_of(rehearsed, board, ('hop',), ('drop',), ('drop',), None)
        self.assert_same((error.__class__, vars(error)), (Broken, {'done': 2}))
        self.assert_same((error.__cause__.__class__, vars(error.__cause__)), (InvalidEvent, {'event': ('drop',), 'reason': 'none'}))
        self.assert_same([all_of(board), board.counts()], [before, (1, 1)])
        for odd in ODD:
            self.assert_same(error_of(rehearsed, board, odd), ('Broken', {'done': 0}))

    def test_not_usable(self):
        for odd in (*ODD, HOUSE, Board, Board(HOUSE).story(), Board(HOUSE).trial()):
            self.assert_unusable('board', rehearsed, odd)
            self.assert_unusable('board', rehearsed, odd, ('hop',))
            self.assert_unusable('board', rehearsed, odd, None)

    def test_derived_boards(self):
        class Late(Board):
            pass
        self.assert_same(rehearsed(Late(HOUSE), ('call', 'vox'), ('hop',)), ((), (('boxed', 'vox'),)))


class TestCounts(BoardCase):

    def test_what_counts_and_what_does_not(self):
        board = Board(HOUSE)
        counted = (
            lambda: board.happen(('mark', 'a')), lambda: board.happen(None), lambda: board.set_hour(3), lambda: board.set_hour(3),
            lambda: board.choose('bob', LATE), lambda: board.choose('bob', None), lambda: board.stand('ann', 'off'), lambda: board.stand('ann', 'off'),
            lambda: board.place_call('ann'), lambda: board.place_call('ann'), lambda: board.hop(), lambda: board.hop(), lambda: board.drop(),
            lambda: board.mark('b'), lambda: board.mark('b'), lambda: board.undo(), lambda: board.do_all(('mark', 'c'), ('mark', 'd')),
            lambda: board.do_all(('mark', 'e'), ('mark', 'd')), lambda: board.do_all(('mark', 'e'), None, keep=True), lambda: board.do_all(keep=None),
            lambda: board.__iadd__(('mark', 'f')), lambda: board.__iadd__(None), lambda: rehearsed(board, ('mark', 'g')), lambda: rehearsed(board, None))
        free = (
            lambda: board.barred(None), lambda: board.tried(('mark', 'x')), lambda: board.tried(None), lambda: board.trial(), lambda: board.counts(),
            lambda: board.course_to('ann'), lambda: board.course_to('eve'), lambda: board.ended_since('a'), lambda: board.ended_since('zz'),
            lambda: board.tally(), lambda: board.table(), lambda: board.story(), lambda: board['ann'], lambda: board['vox'], lambda: 'ann' in board,
            lambda: len(board), lambda: list(board), lambda: board == board, lambda: all_of(board))
        for k, action in enumerate(counted, start=1):
            for other in (action, *free):
                try:
                    other()
                except LedError:
                    pass
                self.assert_same(board.counts(), (k, k))

    def test_undo_does_not_take_back_counts(self):
        board = Board(HOUSE)
        board.mark('a')
        board.undo()
        self.assert_same([board.counts(), error_of(board.undo)[0], board.counts()], [(2, 2), 'NothingToUndo', (3, 3)])


class TestBesideTheSlowModel(BoardCase):

    def test_trials_and_undos_one_within_another(self):
        chance = chance_of(640)
        for one in tiny_houses(30, 640):
            limit = chance.choice([None, 0, 1, 2])
            board = Board(one, limit=limit)
            board.do_all(*some_story(chance, one, limit, 6))
            before, events = all_of(board), list(board)
            with board.trial():
                self.lead(chance, one, limit, board, events, 3)
            self.assert_same(all_of(board), before)

    def lead(self, chance, one, limit, board, events, depth):
        """Do and undo by chance, with trials within, and hold the board beside the slow model."""
        for _ in range(8):
            if chance.random() < 0.3:
                if events:
                    self.assert_same(board.undo(), events.pop())
                else:
                    self.assert_same(error_of(board.undo), ('NothingToUndo', {'steps': 0}))
            else:
                event = some_event(chance, one)
                if reason(one, state_behind(one, limit, events), len(events), event) is None:
                    events.append(event)
                    board += event
                else:
                    self.assert_same(error_of(board.do_all, event), ('Broken', {'done': 0}))
            if depth and chance.random() < 0.25:
                with board.trial():
                    self.lead(chance, one, limit, board, list(events), depth - 1)
            self.assert_told(board, one, limit, tuple(events))

    def test_do_all_and_rehearsed(self):
        chance = chance_of(641)
        for one in tiny_houses(60, 641):
            limit = chance.choice([None, 0, 1, 2])
            board = Board(one, limit=limit)
            first = some_story(chance, one, limit, 4)
            board.do_all(*first)
            events = [some_event(chance, one) for _ in range(6)]
            fit = list(first)
            while len(fit) - len(first) < 6:
                event = events[len(fit) - len(first)]
                if reason(one, state_behind(one, limit, fit), len(fit), event) is not None:
                    break
                fit.append(event)
            done = len(fit) - len(first)
            wanted = looks(one, limit, fit)
            for action in (board.do_all, lambda *things: rehearsed(board, *things)):
                if done < 6:
                    self.assert_same(error_of(action, *events), ('Broken', {'done': done}))
                    self.assert_told(board, one, limit, first)
            self.assert_same(rehearsed(board, *events[:done]), (wanted['at'], wanted['ends']))
            self.assert_same(board.tried(*events[:done]), (wanted['at'], wanted['ends']))
            self.assert_told(board, one, limit, first)
            if done < 6:
                self.assert_same(error_of(board.do_all, *events, **{'keep': True}), ('Broken', {'done': done}))
            else:
                self.assert_same(board.do_all(*events), 6)
            self.assert_told(board, one, limit, tuple(fit))


if __name__ == '__main__':
    unittest.main()
