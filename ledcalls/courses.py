"""Courses of calls: where they are, who is rung, which caller is told, at which counts they hop."""

from ledcalls.callneeds import need_call
from ledcalls.moves import counts_along, loses_along, rung_at, scene_of, told_behind, walk
from ledcalls.needs import need_limit
from ledcalls.plainparts import table_of


def course_of(house, call):
    """Return the course of the call: the names of its places, and how it ends."""
    need_call(house, call)
    return walk(scene_of(house, call), call[0])


def rung_in(house, call):
    """Return for each place of the course the names of the phones that are rung there."""
    names, _ = course_of(house, call)
    scene = scene_of(house, call)
    return tuple([rung_at(scene, name) for name in names])


def told_caller(house, call):
    """Return the caller that is told at the last place of the course."""
    names, _ = course_of(house, call)
    return told_behind(table_of(house), names)


def counts_in(house, call):
    """Return the counts ahead of the hops of the course."""
    names, end = course_of(house, call)
    return counts_along(house, (*names, end[1]) if end[0] == "round" else names)


def is_good(house, call):
    """Return whether the call is good."""
    _, end = course_of(house, call)
    return end[0] in ("answered", "boxed")


def is_cut(house, call, limit):
    """Return whether the call is cut by the limit."""
    names, end = course_of(house, call)
    need_limit(limit)
    if end[0] != "round":
        return _is_reached(limit, counts_along(house, names))
    ring = (*names[names.index(end[1]):], end[1])
    # The counts grow for ever on a ring that loses none; else they come again at each turn.
    if not loses_along(house, ring):
        return True
    return _is_reached(limit, counts_along(house, (*names, *ring)))


def _is_reached(limit, counts):
    """Return whether one of the counts is at least the limit."""
    return any([count >= limit for count in counts])
