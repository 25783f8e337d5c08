"""A desk: a board that is told of and asked about by rows of words."""

from ledcalls.boardlogs import is_story
from ledcalls.boardreadings import read_event, read_story
from ledcalls.boards import Board
from ledcalls.boardtexts import event_line
from ledcalls.errors import InvalidRow, InvalidText, NotUsable
from ledcalls.kinds import is_name
from ledcalls.linewords import name_word


class Desk:
    """A desk with a board."""

    def __init__(self, house):
        self._board = Board(house)
        self._said = 0

    def say(self, row):
        """Return the answer to a row."""
        self._said = self._said + 1
        if not isinstance(row, str):
            raise NotUsable("row", -1)
        event = _event_in(row)
        if event is not None:
            return name_word(self._board.happen(event))
        head = _head_in(row)
        if head is not None:
            self._board = Board(head[1], limit=head[2])
            return "ok"
        return _answer(self._board, row)

    def counts(self):
        """Return the pair of how many calls of say were started and finished."""
        # No call of say begins within another one: so each that began is finished.
        return (self._said, self._said)


def _event_in(row):
    """Return the event that a row writes, or None."""
    try:
        return read_event(row)
    except InvalidText:
        return None


def _head_in(row):
    """Return the beginning of the story without events that a row writes, or None."""
    try:
        story = read_story(row.split("\n"))
    except InvalidText:
        return None
    return story[0] if len(story) == 1 and is_story(story) else None


def _answer(board, row):
    """Return what a board answers to a row that is no event and no story."""
    if row == "undo":
        return event_line(board.undo())
    looks = _looks_of(board)
    if row in looks:
        return name_word(looks[row])
    word, _, rest = row.partition(" ")
    if word == "bars" and _event_in(rest) is not None:
        return _word(board.barred(_event_in(rest)))
    if word == "course" and is_name(rest):
        names, end = board.course_to(rest)
        return f"{_words(names)} {_pairs([end])}"
    if word == "ended" and is_name(rest):
        return name_word(_pairs(board.ended_since(rest)))
    raise InvalidRow(row)


def _looks_of(board):
    """Return a dict with what each row of one word asks for; nothing is the empty string there."""
    return {
        "story": " / ".join([event_line(event) for event in board]), "table": " / ".join(board.table()),
        "hour": str(board.hour_now), "limit": _word(board.limit_now), "count": str(board.count_now),
        "told": board.told_now, "at": _words(board.at_now), "rung": _words(board.rung_now),
        "standings": _words(board.standings_now), "ends": _pairs(board.ends_now),
        "tally": _pairs(board.tally())}


def _word(thing):
    """Return the word of a string or a number, - for None."""
    return "-" if thing is None else str(thing)


def _words(things):
    """Return words with single spaces between."""
    return " ".join(things)


def _pairs(pairs):
    """Return each pair as two words with @ between, with single spaces between the pairs."""
    return " ".join([f"{word}@{thing}" for word, thing in pairs])
