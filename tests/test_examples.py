"""The document's own examples of the modules that stand, word for word."""

import unittest

from ledcalls import errors

HOUSE = r"""
    >>> ANN = ('phone', 'ann', 0, 'kept', (((), '', 'bob', 'desk', ''),))
    >>> BOB = ('phone', 'bob', 1, 'own', (((), '', '', 'ann', ''), ((0, 1), 'vox', '', 'ann', '')))
    >>> DESK = ('group', 'desk', 0, 'kept', 'turns', ('ann', 'bob'), 'vox')
    >>> VOX = ('box', 'vox', 1)
    >>> HOUSE = (('kept', 'lost'), (('bob', 'vox'),), (ANN, BOB, DESK, VOX))
    >>> CALL = ('ann', 9, (ANN[4][0], BOB[4][0]), ('busy', 'unheard'))
"""

STAGE_1 = r"""
    >>> from ledcalls.housechecker import is_house, lets_house
    >>> [lets_house(HOUSE), is_house((('kept', 'kept'), (), [VOX]))]
    [4, False]
    >>> lets_house((('kept', 'kept'), (), (BOB, VOX)))
    raises InvalidPaper(word='setting', at=(0, 0))

    >>> from ledcalls.houseparts import come_to, leads_of, phones_of
    >>> [phones_of(HOUSE, 'desk'), come_to(HOUSE, 'bob', 9), come_to(HOUSE, 'desk', 9)]
    [('ann', 'bob'), ('ann', 'bob', 'desk', 'vox'), ('desk', 'vox')]
    >>> leads_of(HOUSE, 0)
    (('ann', 'busy', 'bob'), ('ann', 'unheard', 'desk'), ('bob', 'hours', 'vox'), ('bob', 'unheard', 'ann'), ('desk', 'after', 'vox'))

    >>> from ledcalls.housechanges import moved, renamed, without_place, without_settings
    >>> [without_settings(HOUSE, (('bob', BOB[4][1]),))[2][1][4], renamed(HOUSE, 'bob', 'zoe')[1], moved(HOUSE, 'vox', 0)[2][3]]
    [(((), '', '', 'ann', ''),), (('zoe', 'vox'),), ('box', 'vox', 0)]
    >>> without_place(HOUSE, 'ann')
    raises InvalidPaper(word='setting', at=(0, 0))
"""

READINGS = r"""
    >>> from ledcalls.housereadings import read_house, read_place
    >>> from ledcalls.housetexts import house_text, place_text
    >>> [place_text(BOB), place_text(DESK), read_place('box vox 1'), read_house(house_text(HOUSE)) == HOUSE]
    ['phone bob 1 own\nsetting - - - ann -\nsetting 0,1 vox - ann -', 'group desk 0 kept turns vox ann bob', ('box', 'vox', 1), True]
    >>> read_place('phone a 0 own\nsetting 3,12 b - - -\nsetting 3,12 b - - -', line=4)
    raises InvalidText(line=6, field=5)
    >>> read_house('border kept lost')
    raises InvalidText(line=1, field=0)
"""

STAGE_2 = r"""
    >>> from ledcalls.houseclasses import Chosen, House
    >>> one = House.of(ANN, BOB, DESK, VOX)
    >>> two = Chosen(('kept', 'lost'), (), (ANN, BOB, DESK, VOX), (ANN[4][0], BOB[4][1]))
    >>> [one['vox'], 'desk' in one, (one + ('box', 'more', 0)).names_now, two(9) == one(9), two(0)[2], two <= one, str(House.of(VOX))]
    [('box', 'vox', 1), True, ('ann', 'bob', 'desk', 'vox', 'more'), True, ('bob', 'hours', 'vox'), False, 'border kept kept\nbox vox 1']

    >>> from ledcalls.callchecker import is_call, lets_call
    >>> [is_call(HOUSE, CALL), lets_call(HOUSE, CALL[:3] + (('answers', 'off'),)), is_call(HOUSE, CALL[:2])]
    [True, 1, False]
    >>> lets_call(HOUSE, ('vox', 24, (), ()))
    raises InvalidPaper(word='hour', at=-1)

    >>> from ledcalls.courses import counts_in, course_of, is_cut, is_good, rung_in, told_caller
    >>> [course_of(HOUSE, CALL), rung_in(HOUSE, CALL), counts_in(HOUSE, CALL), is_cut(HOUSE, CALL, 1), is_cut(HOUSE, CALL, 2)]
    [(('ann', 'bob'), ('round', 'ann')), ((), ('bob',)), (0, 0), True, False]
    >>> EARLY = ('bob', 1, (ANN[4][0], BOB[4][1]), ('unheard', 'answers'))
    >>> [course_of(HOUSE, EARLY), rung_in(HOUSE, EARLY), told_caller(HOUSE, EARLY), is_good(HOUSE, EARLY)]
    [(('bob', 'vox'), ('boxed', 'vox')), ((), ()), 'bob', True]
    >>> rung_in(HOUSE, ('ann', 9, CALL[2], ('unheard', 'answers')))
    (('ann',), ('ann', 'bob'))

    >>> from ledcalls.harmshows import harms_shown
    >>> [harms_shown(HOUSE, CALL), harms_shown(HOUSE, EARLY), harms_shown(HOUSE, ('ann', 9, CALL[2], ('unheard', 'answers')))]
    [('round',), ('barred',), ('twice',)]

    >>> from ledcalls.callreadings import read_call
    >>> read_call(HOUSE, 'ann 9 0:busy 2:off')
    raises InvalidText(line=0, field=3)
"""

STAGE_3 = r"""
    >>> from ledcalls.callreadings import read_call
    >>> from ledcalls.callseen import books_of, calls_to
    >>> from ledcalls.calltexts import call_text
    >>> [len(list(books_of(HOUSE))), len(list(calls_to(HOUSE, 'ann', 9))), call_text(HOUSE, CALL)]
    [2, 32, 'ann 9 0:busy 0:unheard']
    >>> read_call(HOUSE, 'vox 23 0:off 1:answers') in list(calls_to(HOUSE, 'vox', 23))
    True
    >>> read_call(HOUSE, 'ann 9 0:busy 2:off')
    raises InvalidText(line=0, field=3)

    >>> from ledcalls.pictures import call_picture
    >>> [call_picture(HOUSE, CALL), call_picture(HOUSE, ('ann', 9, CALL[2], ('unheard', 'busy')))]
    [['0 ann busy bob -', '0 bob unheard ann bob'], ['0 ann unheard desk ann', '1 desk after vox ann', '0 vox boxed - -']]

    >>> from ledcalls.callclasses import Call, Harmless
    >>> one = Call.of(HOUSE, CALL)
    >>> [one.harms_now, one['bob'], len(one), 'vox' in one, str(one + ('bob', 'busy')), (one + ('bob', 'busy')).course_now[1]]
    [('round',), (((), '', '', 'ann', ''), 'unheard'), 2, False, 'ann 9 0:busy 0:busy', ('busy', 'bob')]
    >>> [Harmless(HOUSE, *CALL[:3], ('answers', 'off')) == one.with_standing('ann', 'answers') + ('bob', 'off'), (one % 1).to('bob').course_now]
    [True, (('bob', 'ann'), ('round', 'bob'))]
    >>> Harmless(HOUSE, *CALL)
    raises NotUsable(word='harm', at=-1)

    >>> from ledcalls.rings import can_round, rings_of
    >>> rings_of(HOUSE, 9)
    ((('ann', 'busy', 'bob'), ('bob', 'unheard', 'ann')),)
    >>> [can_round(HOUSE, 'ann'), can_round(HOUSE, 'desk'), can_round(HOUSE, 'ann', hours=())]
    [True, False, False]

    >>> from ledcalls.numbers import falling_numbers, most_amid
    >>> [falling_numbers(HOUSE, 'desk', 9), falling_numbers(HOUSE, 'ann', 9), most_amid(HOUSE, 'desk', 9)]
    [(('desk', 1), ('vox', 0)), None, 1]
"""

STAGE_4 = r"""
    >>> from ledcalls.numbers import falling_numbers, most_amid
    >>> from ledcalls.roundchecker import lets_numbers
    >>> [falling_numbers(HOUSE, 'desk', 9), falling_numbers(HOUSE, 'ann', 9), most_amid(HOUSE, 'desk', 9)]
    [(('desk', 1), ('vox', 0)), None, 1]
    >>> lets_numbers(HOUSE, 'desk', 9, (('desk', 7), ('vox', 3)))
    7
    >>> lets_numbers(HOUSE, 'desk', 9, (('desk', 3), ('vox', 3)))
    raises InvalidPaper(word='lead', at=('desk', 'after', 'vox'))

    >>> from ledcalls.roundchecker import lets_round
    >>> from ledcalls.roundpapers import round_paper
    >>> [lets_round(HOUSE, 'ann', ('call', CALL)), lets_round(HOUSE, 'desk', round_paper(HOUSE, 'desk'))]
    [True, False]
    >>> lets_round(HOUSE, 'bob', ('call', CALL))
    raises InvalidPaper(word='call', at=-1)

    >>> from ledcalls.courses import course_of
    >>> from ledcalls.harms import end_call, ends_of, harm_call, harms_of, is_harmless
    >>> [harms_of(HOUSE, 'ann'), harms_of(HOUSE, 'bob'), harm_call(HOUSE, 'ann', 'lost'), is_harmless(HOUSE, harms=('lost',))]
    [('round', 'twice'), ('barred', 'round', 'twice'), None, True]
    >>> ends_of(HOUSE, 'ann')
    (('answered', 'ann'), ('answered', 'bob'), ('boxed', 'vox'), ('busy', 'bob'), ('off', 'ann'), ('off', 'bob'))
    >>> [course_of(HOUSE, end_call(HOUSE, 'ann', ('busy', 'bob'))), end_call(HOUSE, 'desk', ('busy', 'bob'))]
    [(('ann', 'bob'), ('busy', 'bob')), None]
    >>> end_call(HOUSE, 'ann', ('lost', 'bob'))
    raises NotUsable(word='end', at=-1)

    >>> from ledcalls.harmchecker import lets_harm
    >>> [lets_harm(HOUSE, 'ann', 'round', CALL), lets_harm(HOUSE, 'bob', 'barred', harm_call(HOUSE, 'bob', 'barred'))]
    [True, True]
    >>> lets_harm(HOUSE, 'ann', 'twice', CALL)
    raises InvalidPaper(word='harm', at=-1)

    >>> from ledcalls.harmclasses import Feared, Harms
    >>> one, two = Harms(HOUSE), Feared(HOUSE, 'twice', 'lost')
    >>> [one['bob'], 'lost' in one, len(one), list(two), two.feared_now, two <= one, one <= two]
    [('barred', 'round', 'twice'), False, 2, ['ann', 'bob'], ('lost', 'twice'), True, False]
    >>> [two.table_now, str(Feared(HOUSE, 'barred')), one(name='desk', harm='round')]
    [(('ann', ('twice',)), ('bob', ('twice',)), ('desk', ()), ('vox', ())), 'ann -\nbob barred\ndesk -\nvox -', None]
    >>> Feared(HOUSE, 'lost', 'lost')
    raises NotUsable(word='harms', at=1)

    >>> from ledcalls.courses import is_cut
    >>> from ledcalls.limits import cut_call, least_limit, most_hops, sure_limit, uncut_call
    >>> [most_hops(HOUSE, 'bob'), most_hops(HOUSE, 'ann'), most_hops(HOUSE, 'vox'), least_limit(HOUSE), sure_limit(HOUSE)]
    [3, 2, 0, 3, None]
    >>> [cut_call(HOUSE, 3), cut_call(HOUSE, 2)[0], is_cut(HOUSE, uncut_call(HOUSE, 3), 3), uncut_call(HOUSE, 1)]
    [None, 'bob', False, None]
"""

STAGE_5 = r"""
    >>> from ledcalls.limitchecker import lets_unsure
    >>> from ledcalls.limitpapers import unsure_paper
    >>> [lets_unsure(HOUSE, ('unsure', ('bob', 9, CALL[2], ('unheard', 'unheard')), CALL)), lets_unsure(HOUSE, unsure_paper(HOUSE)) > 1]
    [3, True]
    >>> lets_unsure(HOUSE, ('unsure', ('desk', 9, CALL[2], ('off', 'off')), CALL))
    raises InvalidPaper(word='round', at=-1)

    >>> from ledcalls.takings import greatest_left, least_taken
    >>> EVE = ('phone', 'eve', 0, 'kept', (((), '', 'sam', '', ''),))
    >>> SAM = ('phone', 'sam', 0, 'kept', (((), '', '', '', ''), ((), '', '', 'eve', '')))
    >>> PAIR, GIVEN = (('kept', 'kept'), (), (EVE, SAM)), (('sam', SAM[4][0]), ('sam', SAM[4][1]))
    >>> [least_taken(PAIR, GIVEN) == (GIVEN[1:],), greatest_left(PAIR, GIVEN) == (GIVEN[:1],), least_taken(PAIR, GIVEN[:1]), least_taken(PAIR, (), harms=('twice',))]
    [True, True, (), ((),)]

    >>> from ledcalls.takingchecker import lets_taking
    >>> from ledcalls.takingpapers import taking_paper
    >>> [lets_taking(PAIR, taking_paper(PAIR, GIVEN[1:])), taking_paper(PAIR, ()), taking_paper(PAIR, GIVEN[:1])]
    [1, None, None]
    >>> lets_taking(PAIR, ((), ((('eve', 1), ('sam', 0)),) * 24, ()))
    raises InvalidPaper(word='numbers', at=0)

    >>> from ledcalls.housechanges import with_bars, without_settings
    >>> from ledcalls.within import is_within
    >>> [is_within(without_settings(HOUSE, (('bob', BOB[4][1]),)), HOUSE), is_within(HOUSE, with_bars(HOUSE, ())), is_within(HOUSE, HOUSE)]
    [True, False, True]
"""

STAGE_6 = r"""
    >>> from ledcalls.backs import call_back, ends_back
    >>> [ends_back(HOUSE, 'ann', ('ann', 'ann')), ends_back(HOUSE, 'ann', ('bob',)), ends_back(HOUSE, 'ann', ('bob', 'ann'))]
    [(('boxed', 'vox'),), (('answered', 'bob'), ('round', 'ann')), ()]
    >>> [ends_back(HOUSE, 'bob', (), hour=0), ends_back(HOUSE, 'bob', (), hour=9), call_back(HOUSE, 'vox', ('bob',))]
    [(('boxed', 'vox'), ('busy', 'bob'), ('off', 'bob')), (('busy', 'bob'), ('off', 'bob')), None]

    >>> from ledcalls.boards import Board
    >>> board = Board(HOUSE)
    >>> [board.stand('ann', 'busy'), board.stand('bob', 'unheard'), board.place_call('ann'), board.hop(), board.hop(), board.at_now]
    ['', '', 'ann', 'bob', 'ann', ('ann', 'bob', 'ann')]
    >>> [board.count_now, board.told_now, board.rung_now, board.course_to('bob'), board.barred(('hour', 1))]
    [1, 'bob', (), (('bob', 'ann'), ('round', 'bob')), 'call']
    >>> [board.stand('ann', 'answers'), board.rung_now, board.hop(), board.ends_now, board.undo(), board.ends_now, board.table()[0]]
    ['ann', ('ann',), '', (('answered', 'ann'),), ('hop',), (), 'ann 0:answers 2 *']
    >>> late = Board(HOUSE, limit=1)
    >>> [late.do_all(*board.story()[1:6], ('mark', 'm'), ('hop',)), late.ended_since('m'), late.tally(), len(late)]
    [7, (('cut', 'ann'),), (('cut', 1),), 0]

    >>> from ledcalls.boardreadings import read_event, read_story
    >>> from ledcalls.boardtexts import event_line, story_lines
    >>> [event_line(('set', 'bob', BOB[4][1])), read_event('hop'), story_lines((('board', (('kept', 'kept'), (), (VOX,)), None), ('call', 'vox')))]
    ['set bob 0,1 vox - ann -', ('hop',), ['board - 2', 'border kept kept', 'box vox 1', 'call vox']]
    >>> read_story(['board 3 2', 'border kept kept'])
    raises InvalidText(line=2, field=0)

    >>> from ledcalls.desks import Desk
    >>> desk = Desk(HOUSE)
    >>> [desk.say(row) for row in ('call desk', 'rung', 'hop', 'ends', 'bars hop', 'course bob', 'undo', 'at')]
    ['desk', 'ann', '-', 'answered@ann', 'none', 'bob answered@bob', 'hop', 'desk']
"""


def answer(source, names):
    """Return what the document writes for the value of an expression, or for its error."""
    try:
        return repr(eval(source, names))
    except errors.LedError as error:
        fields = ', '.join(f'{field}={thing!r}' for field, thing in vars(error).items())
        return f'raises {error.__class__.__name__}({fields})'


class TestExamples(unittest.TestCase):

    maxDiff = None

    def run_examples(self, text):
        rows = [row.strip() for row in (HOUSE + text).split('\n') if row.strip()]
        names = {}
        for k, row in enumerate(rows):
            if row.startswith('>>> '):
                if k + 1 < len(rows) and not rows[k + 1].startswith('>>> '):
                    self.assertEqual(answer(row[4:], names), rows[k + 1], row)
                else:
                    exec(row[4:], names)

    def test_stage_1(self):
        self.run_examples(STAGE_1)

    def test_readings(self):
        self.run_examples(READINGS)

    def test_stage_2(self):
        self.run_examples(STAGE_2)

    def test_stage_3(self):
        self.run_examples(STAGE_3)

    def test_stage_4(self):
        self.run_examples(STAGE_4)

    def test_stage_5(self):
        self.run_examples(STAGE_5)

    def test_stage_6(self):
        self.run_examples(STAGE_6)


if __name__ == '__main__':
    unittest.main()
