"""Pictures of calls."""

from ledcalls.callneeds import need_call
from ledcalls.linewords import name_word
from ledcalls.moves import counts_at, move_at, rung_at, scene_of, walk


def call_picture(house, call):
    """Return a list with a string of five words for each place of the course."""
    need_call(house, call)
    scene = scene_of(house, call)
    names, _ = walk(scene, call[0])
    return [_row(scene, name, count) for name, count in zip(names, counts_at(house, names))]


def _row(scene, name, count):
    """Return the five words of a place, at which the call is at this count first."""
    word, target, _ = move_at(scene, name)
    rung = ",".join(rung_at(scene, name))
    return f"{count} {name} {word} {name_word(target)} {name_word(rung)}"
