"""Room dealt, poured and shared among names, and the small checkers of pourings and shares."""

# The places in an item (least, wish, most, grow, shrink, rank).
LEAST = 0
WISH = 1
MOST = 2
GROW = 3
SHRINK = 4
RANK = 5


def deal(room, weights):
    whole = sum(weights.values())
    if whole == 0:
        # Nobody is due anything, and there is nothing to divide by.
        return dict([(name, 0) for name in weights])
    sizes = {}
    rests = {}
    for name, weight in weights.items():
        sizes[name] = room * weight // whole
        rests[name] = room * weight - sizes[name] * whole
    left = room - sum(sizes.values())
    in_turn = sorted(list(weights), key=lambda name: (-rests[name], name))
    for name in in_turn[:left]:
        sizes[name] = sizes[name] + 1
    return sizes


def weighted(weights):
    return [name for name, weight in weights.items() if weight > 0]


def total_of(numbers, names):
    return sum([numbers[name] for name in names])


def fills(level, weight, cap):
    return cap * level[1] <= weight * level[0]


def rest_of(number, by):
    # By doubles that are taken away, as the checkers may multiply and compare, but not divide.
    doubles = [by]
    while doubles[-1] * 2 <= number:
        doubles.append(doubles[-1] * 2)
    rest = number
    for double in reversed(doubles):
        if double <= rest:
            rest = rest - double
    return rest


def common_of(one, other):
    while other > 0:
        rest = rest_of(one, other)
        one = other
        other = rest
    return one


def level_of(room, weights, caps):
    # Each round's level is no higher than the one due: whom it fills is full by that one, too.
    left = room
    names = weighted(weights)
    level = (left, total_of(weights, names))
    others = [name for name in names if not fills(level, weights[name], caps[name])]
    while len(others) < len(names):
        left = left - total_of(caps, names) + total_of(caps, others)
        names = others
        level = (left, total_of(weights, names))
        others = [name for name in names if not fills(level, weights[name], caps[name])]
    common = common_of(level[0], level[1])
    return (level[0] // common, level[1] // common)


def pour(room, weights, caps):
    sizes = dict([(name, 0) for name in weights])
    names = weighted(weights)
    if room >= total_of(caps, names):
        sizes.update([(name, caps[name]) for name in names])
        return (sizes, None)
    level = level_of(room, weights, caps)
    full = [name for name in names if fills(level, weights[name], caps[name])]
    others = dict([(name, weights[name]) for name in names if not fills(level, weights[name], caps[name])])
    sizes.update([(name, caps[name]) for name in full])
    sizes.update(deal(room - total_of(caps, full), others))
    return (sizes, level)


def is_lowest(level):
    return level[0] >= 0 and level[1] > 0 and common_of(level[0], level[1]) == 1


def dealt_by(level, weights, sizes, names):
    turns = []
    for name in names:
        above = sizes[name] * level[1] - weights[name] * level[0]
        more = 1 if above > 0 else 0
        # The rest below nought, so that in order the greatest rest is first, of alike ones the lesser name.
        rest = above - more * level[1]
        if not -level[1] < rest <= 0:
            return False
        turns.append((rest, name, more))
    given = [turn[2] for turn in sorted(turns)]
    return given == sorted(given, reverse=True)


def poured(room, weights, caps, sizes, level):
    names = weighted(weights)
    if any([sizes[name] != 0 for name, weight in weights.items() if weight == 0]):
        return False
    if room >= total_of(caps, names):
        return level is None and all([sizes[name] == caps[name] for name in names])
    if level is None or not is_lowest(level) or total_of(sizes, names) != room:
        return False
    if sum([min(caps[name] * level[1], weights[name] * level[0]) for name in names]) != room * level[1]:
        return False
    full = [name for name in names if fills(level, weights[name], caps[name])]
    others = [name for name in names if not fills(level, weights[name], caps[name])]
    return all([sizes[name] == caps[name] for name in full]) and dealt_by(level, weights, sizes, others)


# What each item has ahead of all pourings, whether these give (1) or take (-1), and
# the pourings (room, weights, caps) in their order, no name in two of them: told by
# sums alone, for the one who shares and for the one who only looks.
class Plan:
    def __init__(self, bases, sign, pourings):
        self.bases = bases
        self.sign = sign
        self.pourings = pourings


def column_of(items, place):
    return dict([(name, item[place]) for name, item in items.items()])


def plan_growing(room, items):
    wishes = column_of(items, WISH)
    caps = dict([(name, item[MOST] - item[WISH]) for name, item in items.items()])
    return Plan(wishes, 1, [(room - sum(wishes.values()), column_of(items, GROW), caps)])


def plan_shrinking(room, items):
    wishes = column_of(items, WISH)
    lack = sum(wishes.values()) - room
    caps = dict([(name, item[WISH] - item[LEAST]) for name, item in items.items()])
    ready = dict([(name, item[SHRINK]) for name, item in items.items() if item[SHRINK] > 0])
    pourings = [(lack, ready, caps)]
    lack = lack - total_of(caps, ready)
    if lack > 0:
        # By then all that have a shrink are at their least, so that the others alone are poured on.
        others = dict([(name, 1) for name in items if name not in ready])
        pourings.append((lack, others, caps))
    return Plan(wishes, -1, pourings)


def plan_yielding(room, items):
    leasts = column_of(items, LEAST)
    lack = sum(leasts.values()) - room
    pourings = []
    for rank in sorted(set([item[RANK] for item in items.values()])):
        if lack > 0:
            weights = dict([(name, 1) for name, item in items.items() if item[RANK] == rank])
            given = min(lack, total_of(leasts, weights))
            pourings.append((given, weights, leasts))
            lack = lack - given
    return Plan(leasts, -1, pourings)


def plan_of(room, items):
    if room >= sum([item[WISH] for item in items.values()]):
        return plan_growing(room, items)
    if room >= sum([item[LEAST] for item in items.values()]):
        return plan_shrinking(room, items)
    return plan_yielding(room, items)


def share(room, items):
    plan = plan_of(room, items)
    sizes = dict(plan.bases)
    levels = []
    for amount, weights, caps in plan.pourings:
        told = pour(amount, weights, caps)
        for name, cells in told[0].items():
            sizes[name] = sizes[name] + plan.sign * cells
        levels.append(told[1])
    return (sizes, room - sum(sizes.values()), levels)


def shared(room, items, sizes, over, levels):
    plan = plan_of(room, items)
    if over != room - sum(sizes.values()) or len(levels) != len(plan.pourings):
        return False
    cells = dict([(name, plan.sign * (sizes[name] - base)) for name, base in plan.bases.items()])
    come_to = {}
    for pouring, level in zip(plan.pourings, levels):
        weights = pouring[1]
        if not poured(pouring[0], weights, pouring[2], dict([(name, cells[name]) for name in weights]), level):
            return False
        come_to.update(weights)
    return all([cells[name] == 0 for name in cells if name not in come_to])
