"""Dealing, pouring and sharing by fractions and by trying out, without the program's own means."""

import itertools
import random
from fractions import Fraction


def pair(number):
    return None if number is None else (number.numerator, number.denominator)


def dealt(room, weights):
    """Each cell left goes to the name with the greatest rest among those that have none of them yet."""
    total = sum(weights.values())
    exact = {name: Fraction(room * weight, total) for name, weight in weights.items()}
    sizes = {name: int(part) for name, part in exact.items()}
    waiting = sorted(weights)
    while sum(sizes.values()) < room:
        greatest = max(exact[name] - int(exact[name]) for name in waiting)
        chosen = next(name for name in waiting if exact[name] - int(exact[name]) == greatest)
        waiting.remove(chosen)
        sizes[chosen] += 1
    return sizes


def height_of(weights, caps, level):
    return sum(min(Fraction(caps[name]), weights[name] * level) for name in weights)


def least_level(room, weights, caps):
    """Between two neighbouring levels at which a name is full the height rises as a straight line."""
    turns = sorted({Fraction(0)} | {Fraction(caps[name], weights[name]) for name in weights if weights[name]})
    for turn in turns:
        if height_of(weights, caps, turn) == room:
            return turn
    for low, high in zip(turns, turns[1:]):
        below, above = height_of(weights, caps, low), height_of(weights, caps, high)
        if below < room < above:
            return low + (high - low) * (room - below) / (above - below)
    return None


def poured_out(room, weights, caps):
    able = [name for name in weights if weights[name]]
    if room >= sum(caps[name] for name in able):
        return {name: caps[name] if weights[name] else 0 for name in weights}, None
    level = least_level(room, weights, caps)
    full = {name: caps[name] for name in able if caps[name] <= weights[name] * level}
    others = {name: weights[name] for name in able if name not in full}
    return {name: 0 for name in weights} | full | dealt(room - sum(full.values()), others), pair(level)


def shared_out(room, items):
    """The words of 7 one by one, each pouring on all the names that they speak of."""
    leasts, wishes, mosts, grows, shrinks, ranks = (
        {name: item[place] for name, item in items.items()} for place in range(6))
    ones = {name: 1 for name in items}
    if room >= sum(wishes.values()):
        more = room - sum(wishes.values())
        given, level = poured_out(more, grows, {name: mosts[name] - wishes[name] for name in items})
        return {name: wishes[name] + given[name] for name in items}, more - sum(given.values()), [level]
    if room >= sum(leasts.values()):
        lack = sum(wishes.values()) - room
        taken, level = poured_out(lack, shrinks, {name: wishes[name] - leasts[name] for name in items})
        sizes = {name: wishes[name] - taken[name] for name in items}
        if sum(taken.values()) == lack:
            return sizes, 0, [level]
        caps = {name: sizes[name] - leasts[name] for name in items}
        again, second = poured_out(lack - sum(taken.values()), ones, caps)
        return {name: sizes[name] - again[name] for name in items}, 0, [level, second]
    lack, sizes, levels = sum(leasts.values()) - room, dict(leasts), []
    for rank in range(10):
        names = [name for name in items if ranks[name] == rank]
        if names and lack:
            amount = min(lack, sum(leasts[name] for name in names))
            taken, level = poured_out(amount, {name: 1 for name in names}, {name: leasts[name] for name in names})
            sizes.update({name: leasts[name] - taken[name] for name in names})
            lack -= amount
            levels.append(level)
    return sizes, 0, levels


def some_names(chance, most):
    return chance.sample(["a", "b", "ab", "ba", "c", "", "B", "z"], chance.randint(0, most))


def deal_cases(many):
    chance = random.Random(4)
    cases = []
    while len(cases) < many:
        top = chance.choice((1, 2, 5, 99, 10 ** 6))
        weights = {name: chance.choice((0, chance.randint(0, top))) for name in some_names(chance, 6)}
        if any(weights.values()):
            cases.append((chance.choice((0, 1, 2, 3, 7, chance.randint(0, 40), chance.randint(0, 10 ** 9))), weights))
    return cases


def pour_cases(many, names, top):
    """So many cases (room, weights, caps), always the same ones."""
    chance = random.Random(5)
    cases = []
    for _ in range(many):
        chosen = some_names(chance, names)
        weights = {name: chance.choice((0, 1, 1, 2, 3, chance.randint(0, top))) for name in chosen}
        caps = {name: chance.choice((0, 1, chance.randint(0, 6), chance.randint(0, top))) for name in chosen}
        able = sum(caps[name] for name in chosen if weights[name])
        rooms = (0, able, max(0, able - 1), able + 1, chance.randint(0, able), chance.randint(0, able + 5))
        cases.append((chance.choice(rooms), weights, caps))
    return cases


def some_item(chance, top):
    least, wish, most = sorted(chance.choice((0, chance.randint(0, 3), chance.randint(0, top))) for _ in range(3))
    return (least, wish, most, chance.choice((0, 0, 1, 2, chance.randint(0, 99))),
            chance.choice((0, 0, 1, 2, chance.randint(0, 99))), chance.choice((0, 0, 1, 2, 2, 5, 9)))


def share_cases(many, names, top):
    """So many cases (room, items), always the same ones."""
    chance = random.Random(7)
    cases = []
    for _ in range(many):
        items = {name: some_item(chance, top) for name in some_names(chance, names)}
        sums = [sum(item[place] for item in items.values()) for place in range(3)]
        rooms = [max(0, number + by) for number in sums for by in (-1, 0, 1)] + [0]
        rooms += [chance.randint(0, number) for number in sums] + [chance.randint(sums[0], sums[1])] * 5
        cases.append((chance.choice(rooms), items))
    return cases


def all_sizes(names, least, most):
    for sizes in itertools.product(range(least, most + 1), repeat=len(names)):
        yield dict(zip(names, sizes))


def bent_sizes(sizes):
    """All sizes that have one cell more or less somewhere, or a cell moved."""
    for name in sizes:
        for by in (-1, 1, 7):
            yield sizes | {name: sizes[name] + by}
    for one, other in itertools.permutations(sizes, 2):
        for by in (1, 2):
            yield sizes | {one: sizes[one] - by, other: sizes[other] + by}


def bent_levels(level):
    """Levels other than this one, the same in other terms among them."""
    near = [None, (0, 1), (1, 1), (1, 2), (0, 0), (1, 0), (0, 2), (-1, 1), (0, -1), (-1, -1)]
    if level is not None:
        p, q = level
        near += [(2 * p, 2 * q), (3 * p, 3 * q), (-p, -q), (p, -q), (-p, q), (p + 1, q), (p - 1, q), (p, q + 1),
                 (p + q, q), (q, p), (p, 0), (0, q), (p * 10 ** 9, q * 10 ** 9), (p * 10 ** 9 + 1, q * 10 ** 9)]
    return [other for other in near if other != level]
