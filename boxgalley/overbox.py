"""What a box with others over its first part asks for, and the sizes and places of its parts."""

from boxgalley.boxes import name_of, parts_of, what_of
from boxgalley.overs import over_places


def over_asked(box, measures):
    return measures[name_of(parts_of(box)[0])]


def over_sizes(box, size, measures):
    names = [name_of(part) for part in parts_of(box)]
    sizes = dict([(name, min(measures[name][1], size)) for name in names])
    sizes[names[0]] = size
    return sizes


def over_laid(box, width, height, wides, highs):
    things = []
    for part, pair in zip(parts_of(box)[1:], what_of(box)):
        name = name_of(part)
        things.append((name, wides[name][1], highs[name][1], pair[0], pair[1]))
    return [(name_of(parts_of(box)[0]), 0, 0, width, height)] + over_places(width, height, things)
