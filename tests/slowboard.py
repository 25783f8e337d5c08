"""A second, slow model of boards: all is told anew from the events, and the events are made by chance."""

import random

from oracle import STANDINGS, some_setting, tell, visit

WORDS = ('hour', 'set', 'stand', 'call', 'hop', 'drop', 'mark')


def fresh(house):
    """What is so at the beginning."""
    phones = [place for place in house[2] if place[0] == 'phone']
    return {
        'hour': 0, 'settings': {place[1]: min(place[4]) for place in phones}, 'standings': {place[1]: 'answers' for place in phones},
        'at': [], 'ends': [], 'marks': {}}


def call_now(state):
    """The hour, the book and the standings, as the end of a call."""
    return (state['hour'], tuple(state['settings'].values()), tuple(state['standings'].values()))


def reason(house, state, many, event):
    """The reason against an event by form, behind so many events."""
    kinds = {place[1]: place[0] for place in house[2]}
    settings = {place[1]: place[4] for place in house[2] if place[0] == 'phone'}
    word, *rest = event
    if many >= 40:
        return 'full'
    if word == 'hour':
        return 'call' if state['at'] else 'same' if state['hour'] == rest[0] else None
    if word in ('set', 'stand') and kinds.get(rest[0]) != 'phone':
        return 'name'
    if word == 'set':
        return 'setting' if rest[1] not in settings[rest[0]] else 'same' if state['settings'][rest[0]] == rest[1] else None
    if word == 'stand':
        return 'same' if state['standings'][rest[0]] == rest[1] else None
    if word == 'call':
        return 'name' if rest[0] not in kinds else 'call' if state['at'] else None
    if word == 'mark':
        return 'twice' if rest[0] in state['marks'] else None
    return None if state['at'] else 'none'


def count_at(house, at):
    """The count of a call behind the hops along these places."""
    sides = {place[1]: place[2] for place in house[2]}
    count = 0
    for name, after in zip(at, at[1:]):
        count = 0 if sides[name] != sides[after] and house[0][sides[after]] == 'lost' else count + 1
    return count


def happen(house, limit, state, event):
    """Change the state by an event that is not refused."""
    word, *rest = event
    if word == 'hour':
        state['hour'] = rest[0]
    if word == 'set':
        state['settings'][rest[0]] = rest[1]
    if word == 'stand':
        state['standings'][rest[0]] = rest[1]
    if word == 'call':
        state['at'] = [rest[0]]
    if word == 'mark':
        state['marks'][rest[0]] = len(state['ends'])
    end = None
    if word == 'drop':
        end = ('dropped', state['at'][-1])
    if word == 'hop':
        _, after, stop = visit(house, (None, *call_now(state)), state['at'][-1])
        if not after:
            end = stop
        elif limit is not None and count_at(house, state['at']) >= limit:
            end = ('cut', state['at'][-1])
        else:
            state['at'].append(after)
    if end:
        state['ends'].append(end)
        state['at'] = []


def state_behind(house, limit, events):
    """What is so behind events, none of which is refused."""
    state = fresh(house)
    for many, event in enumerate(events):
        assert reason(house, state, many, event) is None
        happen(house, limit, state, event)
    return state


def looks(house, limit, events):
    """All that a board tells behind these events, as a dict."""
    state = state_behind(house, limit, events)
    at, standing = state['at'], call_now(state)
    shows = {place[1]: place[3] for place in house[2] if place[0] != 'box'}
    told = [name for name in at[:-1] if shows[name] == 'own']
    words = [word for word, _ in state['ends']]
    table = []
    for place in house[2]:
        pair = '-'
        if place[0] == 'phone':
            pair = f"{place[4].index(state['settings'][place[1]])}:{state['standings'][place[1]]}"
        table.append(' '.join([place[1], pair, str(at.count(place[1])), '*' if at[-1:] == [place[1]] else '-']))
    return {
        'house': house, 'limit': limit, 'hour': standing[0], 'book': standing[1], 'standings': standing[2], 'ends': tuple(state['ends']),
        'at': tuple(at), 'count': count_at(house, at), 'told': told[-1] if told else '',
        'rung': tuple(visit(house, (None, *standing), at[-1])[0]) if at else (), 'place': at[-1] if at else '',
        'tally': tuple(sorted((word, words.count(word)) for word in set(words))), 'table': table,
        'story': (('board', house, limit), *events), 'since': {name: tuple(state['ends'][k:]) for name, k in state['marks'].items()},
        'courses': {place[1]: tell(house, (place[1], *standing))['course'] for place in house[2]},
        'phones': {name: (state['settings'][name], state['standings'][name]) for name in state['settings']}}


def some_event(chance, house):
    """Some event by form, mostly one that fits the house."""
    names = [place[1] for place in house[2]]
    phones = [place for place in house[2] if place[0] == 'phone'] or [('phone', 'no', 0, 'own', (((), '', '', '', ''),))]
    word = chance.choice([*WORDS, 'stand', 'stand', 'set', 'call', 'call', *['hop'] * 8])
    if word == 'hour':
        return (word, chance.randint(0, 4))
    if word == 'set':
        phone = chance.choice(phones)
        name = phone[1] if chance.random() < 0.95 else chance.choice([*names, 'nobody'])
        return (word, name, chance.choice(phone[4]) if chance.random() < 0.95 else some_setting(chance, names))
    if word == 'stand':
        name = chance.choice(phones)[1] if chance.random() < 0.95 else chance.choice([*names, 'nobody'])
        return (word, name, chance.choice([*STANDINGS, 'busy', 'unheard']))
    if word in ('call', 'mark'):
        return (word, chance.choice([*names, *names, 'nobody', 'm', 'n']))
    return (word,)


def some_story(chance, house, limit, many):
    """Some events, at most so many, none of which is refused."""
    events = []
    for _ in range(3 * many):
        event = some_event(chance, house)
        if len(events) < many and reason(house, state_behind(house, limit, events), len(events), event) is None:
            events.append(event)
    return tuple(events)


def chance_of(seed):
    return random.Random(seed)
