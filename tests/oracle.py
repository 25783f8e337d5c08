"""A second, slow model of points 5 to 8, and many small houses and calls to hold beside it."""

import random
from itertools import combinations, permutations, product

from samples import HOUSE

STANDINGS = ('answers', 'unheard', 'busy', 'off')


def flat(places, name):
    """The phones of a group with repetitions, by recursion."""
    place = places[name]
    return [name] if place[0] == 'phone' else [phone for member in place[5] for phone in flat(places, member)]


def once(names):
    return list(dict.fromkeys(names))


def visit(house, call, name):
    """What happens at a place: the phones that are rung, the next name, and the end if there is none."""
    places = {place[1]: place for place in house[2]}
    phones = [place[1] for place in house[2] if place[0] == 'phone']
    setting = dict(zip(phones, call[2]))
    standing = dict(zip(phones, call[3]))
    kind = places[name][0]
    if kind == 'box':
        return [], '', ('boxed', name)
    if kind == 'phone':
        hours, early, busy, unheard, off = setting[name]
        if call[1] in hours:
            return [], early, None
        word = standing[name]
        rung = [name] if word in ('answers', 'unheard') else []
        after = {'answers': '', 'busy': busy, 'unheard': unheard, 'off': off}[word]
        return rung, after, ('answered' if word == 'answers' else word, name)
    ringing = [phone for phone in once(flat(places, name)) if standing[phone] in ('answers', 'unheard')]
    answering = [phone for phone in ringing if standing[phone] == 'answers']
    if not answering:
        return ringing, places[name][6], ('unheard', name)
    if places[name][4] == 'turns':
        ringing = ringing[:ringing.index(answering[0]) + 1]
    return ringing, '', ('answered', answering[0])


def tell(house, call):
    """All that the package tells of a call, as a dict."""
    places = {place[1]: place for place in house[2]}
    names, rung, told, name = [], [], '', call[0]
    while True:
        names.append(name)
        ringing, after, end = visit(house, call, name)
        rung.append(tuple(ringing))
        if not after:
            break
        if after in names:
            end = ('round', after)
            break
        if places[name][3] == 'own':
            told = name
        name = after
    course = (tuple(names), end)
    return {
        'course': course, 'rung': tuple(rung), 'told': told, 'good': end[0] in ('answered', 'boxed'),
        'counts': tuple(counts(house, call, len(names) - (end[0] != 'round'))),
        'ever': counts(house, call, 60), 'harms': harms(house, call, course, rung)}


def counts(house, call, most):
    """The counts ahead of the first hops of a call, at most so many."""
    sides = {place[1]: place[2] for place in house[2]}
    found, count, name = [], 0, call[0]
    while len(found) < most:
        after = visit(house, call, name)[1]
        if not after:
            break
        found.append(count)
        count += 1
        if sides[name] != sides[after] and house[0][sides[after]] == 'lost':
            count = 0
        name = after
    return found


def harms(house, call, course, rung):
    """The harms that a call shows, ascending."""
    phones = [place for place in house[2] if place[0] == 'phone']
    who = [phone for ringing in rung for phone in ringing]
    past = [
        place[1] for place, setting, standing in zip(phones, call[2], call[3])
        if place[1] in course[0] and call[1] in setting[0] and standing == 'answers']
    barred = {name for called, name in house[1] if called == call[0]}
    found = []
    if barred & {*who, *([course[1][1]] if course[1][0] == 'boxed' else [])}:
        found.append('barred')
    if course[1][0] in ('busy', 'unheard', 'off') and past:
        found.append('lost')
    if course[1][0] == 'round':
        found.append('round')
    if len(set(who)) != len(who):
        found.append('twice')
    return tuple(found)


def all_calls(house, hours):
    """All calls of a house in these hours."""
    phones = [place for place in house[2] if place[0] == 'phone']
    for name, hour in product([place[1] for place in house[2]], hours):
        for book in product(*[place[4] for place in phones]):
            for standings in product(STANDINGS, repeat=len(phones)):
                yield (name, hour, book, standings)


def leads(house, hour):
    """The leads of an hour, as a set of Python."""
    found = set()
    for place in house[2]:
        if place[0] == 'group':
            found.add((place[1], 'after', place[6]))
        if place[0] == 'phone':
            for hours, early, busy, unheard, off in place[4]:
                if hour in hours:
                    found.add((place[1], 'hours', early))
                else:
                    found |= {(place[1], 'busy', busy), (place[1], 'unheard', unheard), (place[1], 'off', off)}
    return {lead for lead in found if lead[2]}


def rings(house, hour):
    """All rings of an hour, by all orders of all names."""
    between = {}
    for lead in leads(house, hour):
        between.setdefault((lead[0], lead[2]), []).append(lead)
    names = [place[1] for place in house[2]]
    found = []
    for many in range(1, len(names) + 1):
        for order in permutations(names, many):
            if order[0] == min(order):
                found += product(*[between.get(pair, ()) for pair in zip(order, order[1:] + order[:1])])
    return tuple(sorted(found))


def longest_walk(house, hour, name, behind=()):
    """The most leads that can be gone from a name, by all ways; None if there is no end."""
    if name in behind:
        return None
    walks = [longest_walk(house, hour, after, (*behind, name)) for first, _, after in leads(house, hour) if first == name]
    if None in walks:
        return None
    return max([0, *[walk + 1 for walk in walks]])


def reached(house, hour, name):
    """The names that can be come to, ascending."""
    found = {name}
    while True:
        more = found | {after for first, _, after in leads(house, hour) if first in found}
        if more == found:
            return sorted(found)
        found = more


def falling(house, hour, name):
    """The falling numbers, or None."""
    pairs = [(other, longest_walk(house, hour, other)) for other in reached(house, hour, name)]
    return None if None in [number for _, number in pairs] else tuple(pairs)


def some_setting(chance, names):
    links = [chance.choice([*names, '', '']) for _ in range(3)]
    if chance.random() < 0.3:
        return (tuple(sorted(chance.sample(range(4), chance.randint(1, 3)))), chance.choice(names), *links)
    return ((), '', *links)


def some_house(chance):
    """Some house of up to seven places."""
    names = chance.sample(['a', 'b', 'cc', 'd', 'ee', 'f', 'g', 'hh'], chance.randint(2, 7))
    kinds = [chance.choice(['phone', 'phone', 'phone', 'group', 'box']) for _ in names]
    places = []
    for k, (name, kind) in enumerate(zip(names, kinds)):
        side, shows = chance.randint(0, 1), chance.choice(['own', 'kept'])
        # A group has later groups alone as members, so that none is within itself.
        able = [other for j, other in enumerate(names) if kinds[j] == 'phone' or (kinds[j] == 'group' and j > k)]
        if kind == 'group' and able:
            members = tuple(chance.sample(able, chance.randint(1, len(able))))
            way = chance.choice(['together', 'turns'])
            places.append(('group', name, side, shows, way, members, chance.choice([*names, ''])))
        elif kind == 'box':
            places.append(('box', name, side))
        else:
            kinds[k] = 'phone'
            settings = {some_setting(chance, names) for _ in range(chance.randint(1, 3))}
            places.append(('phone', name, side, shows, tuple(sorted(settings))))
    able = [place[1] for place in places if place[0] != 'group']
    bars = {(chance.choice(names), chance.choice(able)) for _ in range(chance.randint(0, 5))}
    border = (chance.choice(['kept', 'lost']), chance.choice(['kept', 'lost']))
    return (border, tuple(sorted(bars)), tuple(places))


def some_call(chance, house):
    """Some call of a house."""
    phones = [place for place in house[2] if place[0] == 'phone']
    standing = chance.choice([STANDINGS, STANDINGS[1:]])
    return (
        chance.choice(house[2])[1], chance.randint(0, 4), tuple(chance.choice(place[4]) for place in phones),
        tuple(chance.choice(standing) for _ in phones))


def some_houses(many, seed):
    """So many houses, always the same ones for a seed; the document's own is the first."""
    chance = random.Random(seed)
    return [HOUSE, *[some_house(chance) for _ in range(many)]]


def many_calls(house):
    """How many calls to each place a house has in an hour."""
    many = 1
    for place in house[2]:
        if place[0] == 'phone':
            many *= 4 * len(place[4])
    return many


def small_houses(many, seed, most=150):
    """So many houses with at most so many calls to each place in an hour."""
    chance = random.Random(seed)
    found = [HOUSE]
    while len(found) <= many:
        house = some_house(chance)
        if many_calls(house) <= most:
            found.append(house)
    return found


def all_told(house, hours=range(5)):
    """A dict with a list for each place: the pairs of a call to it, and what is told of the call."""
    told = {place[1]: [] for place in house[2]}
    for call in all_calls(house, hours):
        told[call[0]].append((call, tell(house, call)))
    return told


def told_houses(many, seed, most=80):
    """Pairs of a small house and all that is told of its calls; no setting has an hour behind 3."""
    return [(house, all_told(house)) for house in small_houses(many, seed, most)]


def great_house(seed, groups, timed, blank, plain=()):
    """A house at the limits: eight places, six phones with three settings, six bars; plain ones are among the settings."""
    chance = random.Random(seed)
    names = list('abcdefgh')
    places = []
    for name in names[:6]:
        settings = set(plain)
        while len(settings) < 3:
            hours = tuple(sorted(chance.sample(range(24), 12))) if len(settings) < timed else ()
            links = [chance.choice(names) if chance.random() >= blank else '' for _ in range(3)]
            settings.add((hours, chance.choice(names) if hours else '', *links))
        places.append(('phone', name, chance.randint(0, 1), chance.choice(['own', 'kept']), tuple(sorted(settings))))
    # The last two are boxes or groups; if both are groups, one is within the other.
    for k, name in enumerate(names[6:]):
        members = (*chance.sample(names[:6], 3), *names[7 + k:][:groups - 1])
        way, shows = chance.choice(['together', 'turns']), chance.choice(['own', 'kept'])
        made = ('group', name, k, shows, way, members, chance.choice(['', *names]))
        places.append(made if k < groups else ('box', name, k))
    pairs = [(called, name) for called in names for name in names[:6]]
    border = (chance.choice(['kept', 'lost']), chance.choice(['kept', 'lost']))
    return (border, tuple(sorted(chance.sample(pairs, 6))), tuple(places))


def some_calls(many, each, seed):
    """Pairs of a house and a call of it: so many houses, with so many calls each."""
    chance = random.Random(seed)
    return [(house, some_call(chance, house)) for house in some_houses(many, seed) for _ in range(each)]


def tiny_house(chance):
    """Some house of one or two phones, mostly with two settings, and perhaps groups and a box; or of boxes alone."""
    if chance.random() < 0.05:
        return (('kept', 'lost'), (('x', 'y'),), (('box', 'x', 0), ('box', 'y', 1)))
    names = ['a', 'b'][:chance.choice([1, 2, 2, 2])]
    groups = ['g', 'h'][:chance.choice([0, 1, 1, 2])]
    box = ['v'] if chance.random() < 0.5 else []
    everyone = [*names, *groups, *box]
    places = []
    for name in names:
        settings = {some_setting(chance, everyone) for _ in range(chance.choice([1, 2, 2, 2, 2]))}
        places.append(('phone', name, chance.randint(0, 1), chance.choice(['own', 'kept']), tuple(sorted(settings))))
    for k, name in enumerate(groups):
        able = [*names, *groups[k + 1:]]
        members = tuple(chance.sample(able, chance.randint(1, len(able))))
        way = chance.choice(['together', 'turns'])
        places.append(('group', name, chance.randint(0, 1), 'kept', way, members, chance.choice([*everyone, ''])))
    places += [('box', name, 1) for name in box]
    chance.shuffle(places)
    bars = {(chance.choice(everyone), chance.choice([*names, *box])) for _ in range(chance.randint(0, 2))}
    border = (chance.choice(['kept', 'lost']), chance.choice(['kept', 'lost']))
    return (border, tuple(sorted(bars)), tuple(places))


def tiny_houses(many, seed):
    """So many tiny houses, the document's own and one of boxes alone ahead of them."""
    chance = random.Random(seed)
    return [HOUSE, (('lost', 'lost'), (), (('box', 'x', 0),)), *[tiny_house(chance) for _ in range(many)]]


def pairs_in(house):
    """The set of the pairs of each phone and each of its settings."""
    return tuple(sorted((place[1], setting) for place in house[2] if place[0] == 'phone' for setting in place[4]))


def subsets(things):
    """All subsets of a set."""
    return [part for many in range(len(things) + 1) for part in combinations(things, many)]


def leaves_all(house, taken):
    """Whether each phone keeps a setting."""
    return all(set(place[4]) - {setting for name, setting in taken if name == place[1]}
               for place in house[2] if place[0] == 'phone')


def enough_sets(house, told, given, harms):
    """All subsets of given that are enough, by all subsets and all calls that are told of."""
    phones = [place[1] for place in house[2] if place[0] == 'phone']
    bad = [
        set(zip(phones, call[2])) for rows in told.values() for call, row in rows if set(row['harms']) & set(harms)]
    return [
        part for part in subsets(given)
        if leaves_all(house, part) and not any(used.isdisjoint(part) for used in bad)]


def least_sets(house, told, given, harms):
    """All that are enough but have no lesser part that is, as a set."""
    enough = enough_sets(house, told, given, harms)
    return tuple(sorted(part for part in enough if not any(set(other) < set(part) for other in enough)))


def great_takings(many, seed):
    """Pairs of a house at the limits, each phone of which can lead to nothing, and six pairs of it."""
    chance = random.Random(seed)
    found = []
    for k in range(many):
        plain = ((), '', '', '', '')
        house = great_house(seed + k, k % 3, k % 4, chance.choice([0.5, 0.7, 0.9, 0.93]), [plain])
        free = [pair for pair in pairs_in(house) if pair[1] != plain]
        found.append((house, tuple(sorted(chance.sample(free, 6)))))
    return found
