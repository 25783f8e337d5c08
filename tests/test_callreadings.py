"""Points 23, 30 and 34: calls that lines write, and what cannot stand in them."""

import unittest

from ledcalls.callreadings import read_call
from oracle import all_calls, some_calls
from samples import BOB, CALL, HOUSE, NO_STRINGS, ODD, VOX, Strict, house, phone

WORDS = ('ann', '9', '0:busy', '1:off')
NO_NAMES = ('', '-', 'nobody', 'Ann', 'an', 'ann,', '0', 'ann\n', '\nann')
NO_HOURS = ('', '-', '24', '00', '09', '-1', '+1', '1.0', 'a', '9,', '9\n', '\n9', '100', '9' * 60)
NO_PAIRS = (
    '', '-', '0', 'busy', ':busy', '0:', '0:Busy', '00:busy', '01:busy', '-1:busy', '+0:busy', '0:busy:', '0::busy',
    '0,busy', 'busy:0', '2:busy', '9:busy', '0:hours', '0:answered', '0:busy\n', '\n0:busy', '0:bus', 'a:busy',
    '10:busy', '9' * 60 + ':off')


def line_of(one, call):
    """The line of a call, as point 30 has it."""
    phones = [place for place in one[2] if place[0] == 'phone']
    words = [f'{place[4].index(setting)}:{standing}' for place, setting, standing in zip(phones, *call[2:])]
    return ' '.join([call[0], str(call[1]), *words])


class TestReadings(Strict):

    def assert_fault(self, field, *words):
        with self.subTest(words=words):
            self.assert_text(0, field, read_call, HOUSE, ' '.join(words))

    def test_calls(self):
        self.assert_same(read_call(HOUSE, 'ann 9 0:busy 0:unheard'), CALL)
        self.assert_same(
            read_call(text='vox 23 0:off 1:answers', house=HOUSE),
            ('vox', 23, (CALL[2][0], BOB[4][1]), ('off', 'answers')))
        self.assert_same(read_call(HOUSE, 'desk 0 0:answers 1:busy')[:2], ('desk', 0))
        self.assert_same(read_call(house(VOX), 'vox 10'), ('vox', 10, (), ()))
        many = phone('a', *[((), '', '', '', name) for name in sorted('abcdefghijkl')])
        names = [('box', name, 0) for name in 'bcdefghijkl']
        self.assert_same(read_call(house(many, *names), 'k 1 11:off')[2], (((), '', '', '', 'l'),))

    def test_what_is_written_is_read(self):
        for call in all_calls(HOUSE, (0, 7, 23)):
            self.assert_same(read_call(HOUSE, line_of(HOUSE, call)), call)
        for one, call in some_calls(60, 5, 30):
            self.assert_same(read_call(one, line_of(one, call)), call)

    def test_each_word_that_cannot_stand(self):
        for k, odd in enumerate((NO_NAMES, NO_HOURS, NO_PAIRS + ('1:busy',), NO_PAIRS)):
            for word in odd:
                for behind in (WORDS[k + 1:], (), ('', ''), (*WORDS[k + 1:], 'more'), ('odd',)):
                    self.assert_fault(k, *WORDS[:k], word, *behind)

    def test_missing_words(self):
        for k in range(1, len(WORDS)):
            self.assert_fault(k, *WORDS[:k])
            self.assert_fault(k, *WORDS[:k], '')
        self.assert_fault(0, '')
        self.assert_text(0, 1, read_call, house(VOX), 'vox')

    def test_a_word_too_many(self):
        for more in ('', 'more', '0:off', '\n', ' '):
            self.assert_fault(4, *WORDS, more)
            self.assert_fault(4, *WORDS, more, 'odd')
        self.assert_text(0, 2, read_call, house(VOX), 'vox 0 0:off')

    def test_spaces(self):
        self.assert_fault(0, '', *WORDS)
        self.assert_fault(1, 'ann', '', *WORDS[1:])
        self.assert_fault(0, '\n')
        self.assert_fault(0, 'ann\n9', *WORDS[2:])

    def test_not_usable(self):
        for odd in (*ODD, HOUSE[:2], house(BOB, VOX)):
            self.assert_unusable('house', read_call, odd, 'ann 9 0:busy 0:unheard')
            self.assert_unusable('house', read_call, odd, None)
        self.assert_each_unusable('text', (*NO_STRINGS, CALL, HOUSE), lambda thing: read_call(HOUSE, thing))


if __name__ == '__main__':
    unittest.main()
