"""Points 20, 59 and 69: events and stories that lines write, and what cannot stand in them."""

import unittest

from ledcalls.boardlogs import is_story
from ledcalls.boardreadings import read_event, read_story
from ledcalls.boardtexts import event_line, story_lines
from ledcalls.errors import InvalidText
from oracle import tiny_houses
from samples import BOB, HOUSE, NO_STRINGS, ODD, VOX, Strict, error_of, group, house
from slowboard import chance_of, some_story
from test_boardtexts import HOUSE_LINES, LINES
from test_housereadings import NO_HOURS, NO_LINKS, NO_NAMES

HOURS = tuple(str(hour) for hour in range(24))
STANDINGS = ('answers', 'unheard', 'busy', 'off')
NO_HOUR = ('', '-', '24', '00', '01', '-1', '+1', '1,', '0,1', 'a', '9\n', '1.', '9' * 60, '\t1')
NO_STANDING = ('', '-', 'Off', 'of', 'offf', 'answered', 'off\n', '0')
# For each word that begins a line: for each word behind it some that can stand there, and some that cannot.
FALL = {
    'hour': ((HOURS, NO_HOUR),),
    'set': ((('bob', 'set'), NO_NAMES), (('3', '0,23', '10'), NO_HOURS), (('vox', 'abcdefgh'), (*NO_NAMES, 'a\n')), (('-', 'a'), NO_LINKS),
            (('-', 'a'), NO_LINKS), (('-', 'a'), NO_LINKS)),
    'stand': ((('ann', 'off'), NO_NAMES), (STANDINGS, NO_STANDING)),
    'call': ((('ann', 'call', 'abcdefgh'), NO_NAMES),),
    'hop': (), 'drop': (),
    'mark': ((('m', 'abcdefgh'), NO_NAMES),),
}
NO_FIRST = ('', ' ', '-', 'Hop', 'hop\n', '\nhop', 'hops', 'board', 'undo', 'bars', 'setting', 'box', 'round', '0', 'hour3', 'hop\thop')
STORY = ['board 5 9', *HOUSE_LINES, *[line for _, line in LINES]]
NO_LIMITS = ('', '00', '01', '-1', '+1', '1.', 'a', 'None', '--', '1,2', '3\t', '0x1', '1' * 61, '0' * 60)
NO_MANY = (*NO_LIMITS, '-', '0')


class TestReadEvent(Strict):

    def test_lines(self):
        for event, line in LINES:
            self.assert_same(read_event(line), event)
            self.assert_same(read_event(text=line), event)

    def test_each_word_that_can_stand(self):
        for word, fall in FALL.items():
            words = [word, *[stand[0] for stand, _ in fall]]
            for k, (stand, _) in enumerate(fall):
                for other in stand:
                    line = ' '.join([*words[:k + 1], other, *words[k + 2:]])
                    self.assert_same(event_line(read_event(line)), line)

    def assert_fault(self, line, field):
        with self.subTest(line=line):
            self.assert_text(0, field, read_event, line)

    def test_each_word_that_cannot_stand(self):
        for word, fall in FALL.items():
            words = [word, *[stand[0] for stand, _ in fall]]
            for k, (_, odd) in enumerate(fall):
                for other in odd:
                    for behind in (words[k + 2:], [], ['', ''], [*words[k + 2:], 'more']):
                        self.assert_fault(' '.join([*words[:k + 1], other, *behind]), k + 1)

    def test_missing_words_and_too_many(self):
        for word, fall in FALL.items():
            words = [word, *[stand[0] for stand, _ in fall]]
            for k in range(1, len(words)):
                self.assert_fault(' '.join(words[:k]), k)
            for more in ('', '-', 'more', '0', '\n'):
                self.assert_fault(' '.join([*words, more]), len(words))
                self.assert_fault(' '.join([*words, more, more]), len(words))

    def test_a_word_put_in(self):
        for word, fall in FALL.items():
            words = [word, *[stand[0] for stand, _ in fall]]
            for k in range(1, len(words)):
                self.assert_fault(' '.join([*words[:k], '', *words[k:]]), k)

    def test_first_words(self):
        for word in NO_FIRST:
            self.assert_fault(word, 0)
            self.assert_fault(f'{word} ann', 0)

    def test_early_goes_with_hours(self):
        self.assert_fault('set bob - vox - - -', 3)
        self.assert_fault('set bob 3 - - - -', 3)
        self.assert_fault('set bob 3', 3)
        self.assert_fault('set bob -', 3)
        self.assert_same(read_event('set bob - - - vox -'), ('set', 'bob', ((), '', '', 'vox', '')))

    def test_newlines_belong_to_their_words(self):
        for line, field in (('hop\n', 0), ('hop\nhop', 0), ('call ann\n', 1), ('call ann\nhop', 1), ('call \nann', 1), ('hour 3\n', 1),
                            ('stand ann off\n', 2), ('hop \n', 1), ('\n', 0)):
            self.assert_fault(line, field)

    def test_not_usable(self):
        self.assert_each_unusable('text', (*NO_STRINGS, ('hop',), ['hop'], HOUSE), read_event)


class TestReadStory(Strict):

    def assert_fault(self, lines, line, field):
        with self.subTest(lines=lines):
            self.assert_text(line, field, read_story, lines)

    def test_of_the_document(self):
        self.assert_fault(['board 3 2', 'border kept kept'], 2, 0)
        self.assert_same(read_story(['board - 2', 'border kept kept', 'box vox 1', 'call vox']), (('board', house(VOX), None), ('call', 'vox')))

    def test_what_is_written(self):
        wanted = (('board', HOUSE, 5), *[event for event, _ in LINES])
        self.assert_same(read_story(STORY), wanted)
        self.assert_same(read_story(lines=STORY), wanted)
        self.assert_same(STORY[0], 'board 5 9')
        self.assert_same(read_story(STORY[:10]), wanted[:1])
        for limit in ('-', '0', '1', '9' * 60, '1' + '0' * 59):
            self.assert_same(read_story([f'board {limit} 9', *STORY[1:10]]), (('board', HOUSE, None if limit == '-' else int(limit)),))

    def test_the_house_may_be_none_and_the_events_impossible(self):
        lines = ['board - 3', 'border kept kept', 'group g 0 own turns no g', 'bar x y', 'hop', 'hop', 'call eve']
        story = (('board', (('kept', 'kept'), (('x', 'y'),), (group('g', 'g', shows='own', after='no'),)), None), ('hop',), ('hop',), ('call', 'eve'))
        self.assert_same([read_story(lines), story_lines(story), is_story(story)], [story, lines, False])

    def test_an_empty_list_is_one_empty_line(self):
        for lines in ([], [''], ['', 'board - 9']):
            self.assert_fault(lines, 0, 0)

    def test_the_first_line(self):
        rest = STORY[1:]
        for word in ('', 'Board', 'boards', 'hop', 'border', '-'):
            self.assert_fault([f'{word} - 9', *rest], 0, 0)
        for odd in NO_LIMITS:
            for many in ('9', '', '0', '9 9'):
                self.assert_fault([f'board {odd} {many}', *rest], 0, 1)
        for odd in NO_MANY:
            for behind in ('', ' ', ' more'):
                self.assert_fault([f'board - {odd}{behind}', *rest], 0, 2)
                self.assert_fault([f'board 5 {odd}{behind}'], 0, 2)
        for line, field in (('board', 1), ('board ', 1), ('board -', 2), ('board 5 ', 2), ('board 5 9 ', 3), ('board 5 9 9', 3), ('board  9', 1)):
            self.assert_fault([line, *rest], 0, field)
            self.assert_fault([line], 0, field)

    def test_some_lines_of_the_house_are_missing(self):
        for k in range(1, 10):
            self.assert_fault(STORY[:k], k, 0)
            self.assert_fault(['board - ' + '9' * 60, *STORY[1:k]], k, 0)
        self.assert_fault(['board - 10', *STORY[1:10]], 10, 0)
        # The line that is not possible comes first.
        self.assert_fault(['board - 10', *STORY[1:10], 'hop'], 10, 0)
        self.assert_fault(['board - 10', *STORY[1:4], 'hop'], 4, 0)
        self.assert_fault(['board - 10', *STORY[1:4], 'phone bob 1'], 4, 3)

    def test_the_house_ends_too_early(self):
        # A border, and a phone, need a line behind them, even if what stands there is no line of the house.
        self.assert_fault(['board - 1', *STORY[1:]], 2, 0)
        self.assert_fault(['board - 1', 'border kept lost', 'hop'], 2, 0)
        self.assert_fault(['board - 2', *STORY[1:]], 3, 0)
        self.assert_fault(['board - 2', *STORY[1:3], 'hop'], 3, 0)
        self.assert_fault(['board - 2', *STORY[1:3]], 3, 0)
        # Elsewhere it is the line behind the house that is no event.
        for many in (3, 5, 6, 7, 8):
            if STORY[many].split(' ')[0] != 'phone':
                self.assert_fault([f'board - {many}', *STORY[1:]], many + 1, 0)

    def test_each_line_of_the_house_left_out_put_in_spoilt(self):
        for k in range(1, 10):
            for row, field in (('', 0), ('hop', 0), ('board - 9', 0), (STORY[k] + ' ', len(STORY[k].split(' '))), (STORY[k].upper(), 0)):
                self.assert_fault([*STORY[:k], row, *STORY[k + 1:]], k, field)
                self.assert_fault([*STORY[:k], row, *STORY[k:]], k, field)
        self.assert_fault([*STORY[:9], *STORY[10:]], 9, 0)
        self.assert_fault([*STORY[:1], *STORY[2:]], 1, 0)
        self.assert_fault([*STORY[:5], STORY[6], STORY[5], *STORY[7:]], 6, 5)
        self.assert_fault([*STORY[:9], 'bar bob vox', 'bar bob vox'], 10, 0)
        self.assert_fault(['board 5 10', *STORY[1:9], 'bar bob vox', 'bar bob vox'], 10, 2)

    def test_each_event_line_left_out_put_in_spoilt(self):
        story = read_story(STORY)
        for k in range(10, len(STORY)):
            words = STORY[k].split(' ')
            for row, field in (('', 0), ('box a 0', 0), ('board - 9', 0), (f'{STORY[k]} ', len(words)), (f'{STORY[k]} x', len(words)), (f' {STORY[k]}', 0)):
                self.assert_fault([*STORY[:k], row, *STORY[k + 1:]], k, field)
                self.assert_fault([*STORY[:k], row, '', 'odd'], k, field)
            for j in range(1, len(words)):
                if words[1:] != ['0']:
                    self.assert_fault([*STORY[:k], ' '.join([*words[:j], '', *words[j:]]), *STORY[k + 1:]], k, j)
                self.assert_fault([*STORY[:k], ' '.join(words[:j]), *STORY[k + 1:]], k, j)
            self.assert_same(read_story([*STORY[:k], *STORY[k + 1:]]), (*story[:k - 9], *story[k - 8:]))
            self.assert_same(read_story([*STORY[:k], STORY[k], *STORY[k:]]), (*story[:k - 8], *story[k - 9:]))

    def test_two_at_once(self):
        self.assert_fault(['board x 0', ''], 0, 1)
        self.assert_fault(['board - 9 9', ''], 0, 3)
        self.assert_fault(['board - 9', *STORY[1:5], 'setting 3 - - - ', *STORY[6:9], 'odd', 'odd'], 5, 2)
        self.assert_fault([*STORY[:10], 'hop hop', 'odd'], 10, 1)

    def test_there_and_back(self):
        chance = chance_of(691)
        for one in tiny_houses(40, 691):
            limit = chance.choice([None, 0, 5, 10 ** 60 - 1])
            story = (('board', one, limit), *some_story(chance, one, limit, 9))
            lines = story_lines(story)
            self.assert_same(read_story(lines), story)
            for _ in range(12):
                k, thing = chance.randrange(len(lines)), chance.choice(['', 'hop', '-', '0', 'a', 'x y', *chance.choice(lines).split(' ')])
                words = lines[k].split(' ')
                at = chance.randrange(len(words) + 1)
                spoilt = chance.choice([[*words[:at], thing, *words[at:]], [*words[:at], thing, *words[at + 1:]], [*words[:at], *words[at + 1:]]])
                other = [*lines[:k], ' '.join(spoilt), *lines[k + 1:]]
                # Each list is either read and written again, or it has a fault where it was changed, or behind that.
                try:
                    self.assert_same(story_lines(read_story(other)), other)
                except InvalidText as error:
                    self.assertGreaterEqual(error.line, k)

    def test_the_list_is_not_changed(self):
        lines = list(STORY)
        read_story(lines)
        self.assert_same(error_of(read_story, lines[:-1] + ['odd'])[0], 'InvalidText')
        self.assert_same(lines, STORY)

    def test_not_usable(self):
        odd = [thing for thing in ODD if not (isinstance(thing, list) and all(isinstance(row, str) for row in thing))]
        more = (tuple(STORY), '\n'.join(STORY), 'hop', [*STORY, None], [None, *STORY], [*STORY, ['hop']], [*STORY, ('hop',)], ['board - 9\n'], [*STORY, 'hop\n'],
                ['\n'], [*STORY, '\n'], ['', '\n'], [True], [b'hop'], {'board': 1}, HOUSE, BOB)
        self.assert_each_unusable('lines', (*odd, *more), read_story)


if __name__ == '__main__':
    unittest.main()
