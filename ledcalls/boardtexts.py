"""Lines of events and of stories."""

from ledcalls.boardevents import is_event, is_told
from ledcalls.errors import NotUsable
from ledcalls.housetexts import house_text, is_form
from ledcalls.linewords import setting_words


def event_line(event):
    """Return the line of an event by form."""
    if not is_event(event):
        raise NotUsable("event", -1)
    return _line_of(event)


def _line_of(event):
    """Return the line of what is known to be an event by form."""
    if event[0] == "set":
        return " ".join([*event[:2], *setting_words(event[2])])
    return " ".join([str(word) for word in event])


def story_lines(story):
    """Return the list of the lines of a story by form, the house of which may be none."""
    if not is_told(story) or not is_form(story[0][1]):
        raise NotUsable("story", -1)
    _, house, limit = story[0]
    rows = house_text(house).split("\n")
    limit_word = "-" if limit is None else str(limit)
    return [f"board {limit_word} {len(rows)}", *rows, *[_line_of(event) for event in story[1:]]]
