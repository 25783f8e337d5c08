"""Stories of boards, and boards that are led by them."""

from ledcalls.boardevents import is_told
from ledcalls.boards import led_board
from ledcalls.errors import NotUsable
from ledcalls.housechecker import is_house


def is_story(thing):
    """Return whether any value is the story of a board, its events being possible or not."""
    return is_told(thing) and is_house(thing[0][1])


def replayed(story):
    """Return a new Board behind the events of a story."""
    if not is_story(story):
        raise NotUsable("story", -1)
    _, house, limit = story[0]
    return led_board(house, limit, story[1:])
