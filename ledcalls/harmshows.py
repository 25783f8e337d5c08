"""The harms that a call shows."""

from ledcalls.callneeds import need_call
from ledcalls.moves import is_led_past, rung_at, scene_of, walk


def harms_shown(house, call):
    """Return the set of the harms that the call shows."""
    need_call(house, call)
    scene = scene_of(house, call)
    course = walk(scene, call[0])
    shown = (
        ("barred", _is_barred(house, scene, course)),
        ("lost", _is_lost(scene, course)),
        ("round", course[1][0] == "round"),
        ("twice", _is_twice(scene, course)))
    return tuple([harm for harm, is_shown in shown if is_shown])


def _rung_along(scene, course):
    """Return a list of the names of the phones that are rung, place by place."""
    return [phone for name in course[0] for phone in rung_at(scene, name)]


def _is_barred(house, scene, course):
    """Return whether somebody is rung, or a box come to, that is barred for the called place."""
    names, end = course
    barred = [name for called, name in house[1] if called == names[0]]
    if end[0] == "boxed" and end[1] in barred:
        return True
    return any([phone in barred for phone in _rung_along(scene, course)])


def _is_lost(scene, course):
    """Return whether the call reaches nobody, though a phone that led it past answers."""
    names, end = course
    if end[0] not in ("busy", "unheard", "off"):
        return False
    _, _, _, standings = scene
    return any([is_led_past(scene, name) and standings[name] == "answers" for name in names])


def _is_twice(scene, course):
    """Return whether some phone is rung at two places."""
    rung = _rung_along(scene, course)
    return len({phone: True for phone in rung}) < len(rung)
