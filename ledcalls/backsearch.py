"""The search for calls by who is rung along their courses; nothing is checked here.

A step is a tuple (way, at, known, spent) of what a call can be: a tuple of the leads that it went,
one behind the other, to different places; the name of the place where it is; a dict of what is
known of standings; how many of the names that are to be rung are rung already. A phone that is
known is "unheard", or "silent": busy or off. The standing of each other one is free.

An outcome of a step is a tuple (word, target, who, known, spent): the call is led to target for
this word, or ends by it if target is empty; the last two are as behind it.
"""

from ledcalls.madecalls import call_by
from ledcalls.plainparts import SLOTS, table_of
from ledcalls.trails import groups_in


def fitting_calls(house, called, hour, rung):
    """Return a dict with a call for each end of the calls in the hour along which these are rung."""
    scene = (hour, table_of(house), groups_in(house), rung)
    steps = [((), called, {}, 0)]
    seen = {}
    found = {}
    k = 0
    while k < len(steps):
        for outcome in _outcomes(scene, steps[k]):
            end = _end_of(steps[k], outcome)
            if end is None:
                late = _led_on(steps[k], outcome)
                key = _key_of(scene, late)
                if key not in seen:
                    seen[key] = True
                    steps.append(late)
            elif outcome[4] == len(rung) and end not in found:
                found[end] = _call_of(house, called, hour, steps[k], outcome)
        k = k + 1
    return found


def _end_of(step, outcome):
    """Return the end that an outcome is, None if the call is led to a place where it was not yet."""
    way, at, _, _ = step
    word, target, who, _, _ = outcome
    if target == "":
        return ("answered" if word == "answers" else word, who)
    return ("round", target) if target in (at, *[lead[0] for lead in way]) else None


def _led_on(step, outcome):
    """Return the step behind an outcome."""
    way, at, _, _ = step
    word, target, _, known, spent = outcome
    return ((*way, (at, word, target)), target, known, spent)


def _key_of(scene, step):
    """Return a tuple of all of a step that matters for what can come behind it."""
    _, table, _, _ = scene
    way, at, known, spent = step
    passed = [lead[0] for lead in way]
    return (at, spent, tuple([(name in passed, known.get(name, "")) for name in table]))


def _call_of(house, called, hour, step, outcome):
    """Return the call that comes to a step and has this outcome there."""
    way, at, _, _ = step
    word, target, who, known, _ = outcome
    unheard = [name for name in known if known[name] == "unheard"]
    answers = who if word == "answers" else ""
    return call_by(house, called, hour, (*way, (at, word, target)), answers=answers, unheard=unheard)


def _outcomes(scene, step):
    """Return a list of the outcomes of a step."""
    _, table, _, _ = scene
    _, at, known, spent = step
    place = table[at]
    if place[0] == "box":
        return [("boxed", "", at, known, spent)]
    if place[0] == "group":
        return _group_outcomes(scene, place, known, spent)
    return _phone_outcomes(scene, place, known, spent)


def _phone_outcomes(scene, place, known, spent):
    """Return a list of the outcomes at a phone."""
    hour, _, _, rung = scene
    name = place[1]
    found = []
    for word, target in _phone_moves(place, hour):
        if word == "hours":
            found.append((word, target, name, known, spent))
        elif word in ("busy", "off"):
            found.extend([(word, target, name, *late) for late in _silent(name, known, spent)])
        elif word == "unheard" or name not in known:
            found.extend([(word, target, name, *late) for late in _unheard(name, known, spent, rung)])
    return found


def _phone_moves(place, hour):
    """Return a list of the pairs of a word and a target of a phone in the hour, each once."""
    past = [("hours", setting[1]) for setting in place[4] if hour in setting[0]]
    moves = {move: True for move in past}
    for setting in place[4]:
        if hour not in setting[0]:
            moves[("answers", "")] = True
            for word in ("unheard", "busy", "off"):
                # To lead past allows all that to be busy or off does, of whatever comes behind.
                if word == "unheard" or ("hours", setting[SLOTS[word]]) not in moves:
                    moves[(word, setting[SLOTS[word]])] = True
    return list(moves)


def _unheard(name, known, spent, rung):
    """Return a list, perhaps empty, of what is known and spent if a phone is rung."""
    if known.get(name) == "silent" or rung[spent:spent + 1] != (name,):
        return []
    return [({**known, name: "unheard"}, spent + 1)]


def _silent(name, known, spent):
    """Return a list, perhaps empty, of what is known and spent if a phone is busy or off."""
    return [] if known.get(name) == "unheard" else [({**known, name: "silent"}, spent)]


def _group_outcomes(scene, place, known, spent):
    """Return a list of the outcomes at a group."""
    _, _, groups, rung = scene
    name, way, after = place[1], place[4], place[6]
    phones = groups[name]
    word = "after" if after != "" else "unheard"
    found = [(word, after, name, *late) for late in _behind(phones, known, spent, rung)]
    for k, phone in enumerate(phones):
        # Whoever is rung behind the first that answers may be unheard as well.
        behind = phones[k + 1:] if way == "together" else ()
        for met, more in _behind(phones[:k], known, spent, rung):
            if phone not in met:
                for late, most in _unheard(phone, met, more, rung):
                    found.extend([("answers", "", phone, *last) for last in _behind(behind, late, most, rung)])
    return found


def _behind(phones, known, spent, rung):
    """Return a list of pairs of what can be known and spent behind phones that do not answer."""
    found = [(known, spent)]
    for phone in phones:
        late = [_unheard(phone, *pair, rung) + _silent(phone, *pair) for pair in found]
        found = [pair for pairs in late for pair in pairs]
    return found
