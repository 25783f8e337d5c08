"""Points 23, 30 and 34: the lines of calls."""

import unittest

from ledcalls.callreadings import read_call
from ledcalls.callseen import calls_to
from ledcalls.calltexts import call_text
from ledcalls.errors import InvalidText
from oracle import small_houses, some_calls
from samples import ANN, BOB, CALL, HOUSE, ODD, VOX, Strict, group, house, phone

SPOILT = ('', '-', 'x', '0', '24', '00', '0:', ':off', '0:Off', '1:off ', '0:off\n', '9:off', 'nobody', 'vox,')


def reading(one, text):
    """Return the call that a line writes, or None."""
    try:
        return read_call(one, text)
    except InvalidText:
        return None


class TestTexts(Strict):

    def test_lines(self):
        self.assert_same(call_text(HOUSE, CALL), 'ann 9 0:busy 0:unheard')
        self.assert_same(
            call_text(HOUSE, ('desk', 0, (ANN[4][0], BOB[4][1]), ('off', 'answers'))), 'desk 0 0:off 1:answers')
        self.assert_same(call_text(house(VOX), ('vox', 23, (), ())), 'vox 23')
        many = phone('a', *[((), '', '', '', name) for name in 'abcdefghijkl'])
        one = house(group('all', 'a'), many, *[('box', name, 0) for name in 'bcdefghijkl'], phone('z'))
        self.assert_same(
            call_text(one, ('all', 10, (many[4][11], ((), '', '', '', '')), ('unheard', 'busy'))), 'all 10 11:unheard 0:busy')

    def test_what_is_written_is_read(self):
        for one, call in some_calls(200, 5, 34):
            self.assert_same(read_call(one, call_text(one, call)), call)
        for one in small_houses(15, 300):
            for call in calls_to(one, one[2][0][1], 7):
                self.assert_same(read_call(one, call_text(one, call)), call)

    def test_what_is_read_is_written(self):
        read = 0
        for one, call in some_calls(40, 2, 340):
            words = call_text(one, call).split(' ')
            rows = [words[:k] + words[k + 1:] for k in range(len(words))]
            rows += [words[:k] + [odd] + words[k:] for k in range(len(words) + 1) for odd in SPOILT]
            rows += [words[:k] + [odd] + words[k + 1:] for k in range(len(words)) for odd in (*SPOILT, '0:answers', '7')]
            for row in rows:
                text = ' '.join(row)
                got = reading(one, text)
                if got is not None:
                    read += 1
                    self.assert_same(call_text(one, got), text)
        self.assertGreater(read, 50)

    def test_a_word_left_out_put_in_or_spoilt(self):
        words = ['ann', '9', '0:busy', '0:unheard']
        # The words of both phones look alike: without one of them the last one is missing.
        for k, field in enumerate((0, 1, 3, 3)):
            self.assert_text(0, field, read_call, HOUSE, ' '.join(words[:k] + words[k + 1:]))
        for k in range(4):
            for odd in ('', 'x', '0:of', '24'):
                self.assert_text(0, k, read_call, HOUSE, ' '.join(words[:k] + [odd] + words[k + 1:]))
                self.assert_text(0, k, read_call, HOUSE, ' '.join(words[:k] + [odd] + words[k:]))
        for odd in ('', 'x', '0:busy', '0'):
            self.assert_text(0, 4, read_call, HOUSE, ' '.join([*words, odd]))

    def test_not_usable(self):
        for odd in (*ODD, HOUSE[:2], house(BOB, VOX)):
            for call in (CALL, None):
                self.assert_unusable('house', call_text, odd, call)
        odd = (*ODD, HOUSE, CALL[:3], list(CALL), ('ann', True, *CALL[2:]), ('no', *CALL[1:]), (*CALL, ()))
        self.assert_each_unusable('call', odd, lambda thing: call_text(HOUSE, thing))
        self.assert_same(call_text(call=CALL, house=HOUSE), 'ann 9 0:busy 0:unheard')


if __name__ == '__main__':
    unittest.main()
