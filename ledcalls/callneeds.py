"""What functions need of a call: NotUsable tells of a value that is not as stated."""

from ledcalls.callchecker import is_call
from ledcalls.errors import NotUsable


def need_call(house, call):
    """Raise NotUsable if any value is no house, or another one no call of it."""
    if not is_call(house, call):
        raise NotUsable("call", -1)
