"""Live boards: calls that are led hop by hop, while settings and standings change."""

from ledcalls.boardevents import is_event
from ledcalls.calltexts import phone_words
from ledcalls.errors import Broken, InvalidEvent, NothingToUndo, NotUsable
from ledcalls.kinds import is_one_of
from ledcalls.moments import first_moment, moment_behind, place_at, reason_against, scene_at
from ledcalls.moves import rung_at, walk
from ledcalls.needs import need_house, need_limit, need_name
from ledcalls.plainparts import listed_names, listed_phones, own_in
from ledcalls.sorting import ascending


class Trial:
    """What undoes at its end all that is done on a board from its beginning on."""

    def __init__(self, board):
        self._board = board
        self._events = board._events
        self._moments = board._moments

    def __enter__(self):
        return self._board

    def __exit__(self, *told):
        self._board._events = self._events
        self._board._moments = self._moments


class Board:
    """A board on which events happen one by one."""

    MOST = 40

    def __init__(self, house, *, limit=None):
        need_house(house)
        if limit is not None:
            need_limit(limit)
        self._house = house
        self._limit = limit
        self._events = ()
        # The moment ahead of each event, and the one that is now.
        self._moments = (first_moment(house),)
        self._operations = 0

    @property
    def house_now(self):
        """The triple of the house."""
        return self._house

    @property
    def limit_now(self):
        """The limit, or None."""
        return self._limit

    @property
    def hour_now(self):
        """The hour."""
        return self._moments[-1]["hour"]

    @property
    def book_now(self):
        """The tuple of the setting of each phone."""
        return self._moments[-1]["book"]

    @property
    def standings_now(self):
        """The tuple of the standing of each phone."""
        return self._moments[-1]["standings"]

    @property
    def ends_now(self):
        """The tuple of the ends of the calls that ended."""
        return self._moments[-1]["ends"]

    @property
    def at_now(self):
        """The tuple of the names of the places where the call was, () if none is on."""
        return self._moments[-1]["at"]

    @property
    def count_now(self):
        """The count of the call where it is, 0 if none is on."""
        return self._moments[-1]["count"]

    @property
    def told_now(self):
        """The caller that is told where the call is, the empty string if none is on."""
        return self._moments[-1]["told"]

    @property
    def rung_now(self):
        """The tuple of the phones that are rung where the call is, by what is now."""
        moment = self._moments[-1]
        if moment["at"] == ():
            return ()
        return rung_at(scene_at(self._house, moment), place_at(moment))

    def happen(self, event):
        """Apply an event, and return the name of the place where a call is then."""
        self._operations = self._operations + 1
        self._apply(event)
        return place_at(self._moments[-1])

    def _apply(self, event):
        """Apply an event; InvalidEvent tells why any other value is refused."""
        reason = self.barred(event)
        if reason is not None:
            raise InvalidEvent(event, reason)
        late = moment_behind(self._house, self._limit, self._moments[-1], event)
        self._moments = (*self._moments, late)
        self._events = (*self._events, event)

    def set_hour(self, hour):
        """Let it be this hour."""
        return self.happen(("hour", hour))

    def choose(self, name, setting):
        """Let the phone have this setting."""
        return self.happen(("set", name, setting))

    def stand(self, name, standing):
        """Let the phone have this standing."""
        return self.happen(("stand", name, standing))

    def place_call(self, name):
        """Let a call begin at this place."""
        return self.happen(("call", name))

    def hop(self):
        """Let the call make its next move."""
        return self.happen(("hop",))

    def drop(self):
        """Drop the call."""
        return self.happen(("drop",))

    def mark(self, name):
        """Let this moment have this name."""
        return self.happen(("mark", name))

    def __iadd__(self, other):
        self.happen(other)
        return self

    def barred(self, event):
        """Return the reason for which an event is refused, or None."""
        if not is_event(event):
            return "shape"
        if len(self._events) >= self.MOST:
            return "full"
        return reason_against(self._house, self._moments[-1], event)

    def tried(self, *events):
        """Return the pair of at_now and ends_now as they would be behind these events."""
        with self.trial():
            for event in events:
                self._apply(event)
            return (self.at_now, self.ends_now)

    def trial(self):
        """Return what undoes, at the end of a with, all that is done from now on."""
        return Trial(self)

    def undo(self):
        """Take back the last event, and return it."""
        self._operations = self._operations + 1
        if self._events == ():
            raise NothingToUndo(0)
        event = self._events[-1]
        self._events = self._events[:-1]
        self._moments = self._moments[:-1]
        return event

    def do_all(self, *events, keep=False):
        """Apply events in order, and return how many they are; Broken tells of a refused one."""
        self._operations = self._operations + 1
        if not isinstance(keep, bool):
            raise NotUsable("keep", -1)
        before = (self._events, self._moments)
        for done, event in enumerate(events):
            try:
                self._apply(event)
            except InvalidEvent as why:
                if not keep:
                    self._events, self._moments = before
                raise Broken(done) from why
        return len(events)

    def counts(self):
        """Return the pair of how many operations were started and finished."""
        # No operation begins within another one that counts: so each that began is finished.
        return (self._operations, self._operations)

    def course_to(self, name):
        """Return the course of a call to this place, by what is now and with no limit."""
        need_name(self._house, name)
        return walk(scene_at(self._house, self._moments[-1]), name)

    def ended_since(self, name):
        """Return the tuple of the ends of the calls that ended behind the moment of this name."""
        marks = self._moments[-1]["marks"]
        if not is_one_of(name, marks):
            raise NotUsable("name", -1)
        return self.ends_now[marks[name]:]

    def tally(self):
        """Return an ascending tuple of pairs of a word of ends and how many ends have it."""
        words = [word for word, _ in self.ends_now]
        return ascending([(word, words.count(word)) for word in words])

    def table(self):
        """Return a list with a line for each place."""
        phones = [phone[1] for phone in listed_phones(self._house)]
        words = phone_words(self._house, self.book_now, self.standings_now)
        having = {name: word for name, word in zip(phones, words)}
        names = listed_names(self._house)
        stars = {name: "*" if name == place_at(self._moments[-1]) else "-" for name in names}
        return [
            f"{name} {having.get(name, '-')} {self.at_now.count(name)} {stars[name]}" for name in names]

    def story(self):
        """Return the tuple of the beginning and of the events that were not undone."""
        return (("board", self._house, self._limit), *self._events)

    def __getitem__(self, at):
        need_name(self._house, at, kinds=("phone",))
        return (own_in(self._house, self.book_now, at), own_in(self._house, self.standings_now, at))

    def __contains__(self, x):
        return x in self.at_now

    def __len__(self):
        return len(self.at_now)

    def __iter__(self):
        return iter(self._events)

    def __eq__(self, other):
        return isinstance(other, Board) and self.story() == other.story()


def rehearsed(board, *events):
    """Return the pair of at_now and ends_now of a board as they would be behind these events."""
    if not isinstance(board, Board):
        raise NotUsable("board", -1)
    with board.trial():
        board.do_all(*events)
        return (board.at_now, board.ends_now)


def led_board(house, limit, events):
    """Return a new board behind these events, with nothing counted."""
    board = Board(house, limit=limit)
    for event in events:
        board._apply(event)
    return board
