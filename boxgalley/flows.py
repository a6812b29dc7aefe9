"""Floats that stand at the sides of a width, and the stretches that they leave."""

from boxgalley.errors import TooWide


def touches(placed, row, high):
    return max(placed[2], row) < min(placed[2] + placed[4], row + high)


def touching(floats, standing, side, row, high):
    # While floats still come to stand, those behind have no place yet: zip leaves them out.
    return [placed for thing, placed in zip(floats, standing) if thing[1] == side and touches(placed, row, high)]


def left_end(placed):
    return placed[1]


def right_end(placed):
    return placed[1] + placed[3]


def nearest(floats, standing, row, high):
    # The float at the left edge and the one at the right edge, None where the room itself ends there.
    lefts = touching(floats, standing, "left", row, high)
    rights = touching(floats, standing, "right", row, high)
    return (max(lefts, key=right_end, default=None), min(rights, key=left_end, default=None))


def edges_at(W, floats, standing, row, high):
    near = nearest(floats, standing, row, high)
    left = 0 if near[0] is None else right_end(near[0])
    right = W if near[1] is None else left_end(near[1])
    return (left, right)


def place_across(side, wide, edges):
    return edges[0] if side == "left" else edges[1] - wide


def triple_of(near):
    # Those that stand begin no lower than the row looked at, so each is in the way until it ends.
    ends = [placed[2] + placed[4] for placed in near if placed is not None]
    names = ["" if placed is None else placed[0] for placed in near]
    return (min(ends), names[0], names[1])


def stand_float(W, floats, standing, row):
    thing = floats[len(standing)]
    wide = thing[2]
    high = thing[3]
    paper = []
    edges = edges_at(W, floats, standing, row, high)
    while edges[1] - edges[0] < wide:
        paper.append(triple_of(nearest(floats, standing, row, high)))
        row = paper[-1][0]
        edges = edges_at(W, floats, standing, row, high)
    return ((thing[0], place_across(thing[1], wide, edges), row, wide, high), paper)


def stand_floats(W, floats):
    for name, side, wide, high in floats:
        if wide > W:
            raise TooWide(name)
    standing = []
    papers = []
    row = 0
    while len(standing) < len(floats):
        told = stand_float(W, floats, standing, row)
        standing.append(told[0])
        papers.append(told[1])
        row = told[0][2]
    return (standing, papers)


def stretches(W, floats, standing):
    rows = [0]
    for name, across, row, wide, high in standing:
        rows.extend([row, row + high])
    told = []
    for row in sorted(set(rows)):
        edges = edges_at(W, floats, standing, row, 1)
        stretch = (row, edges[0], edges[1] - edges[0])
        if told == [] or told[-1][1:] != stretch[1:]:
            told.append(stretch)
    return told


def widths_of(told, many):
    ends = [stretch[0] for stretch in told[1:]] + [many]
    widths = []
    for stretch, end in zip(told, ends):
        widths.extend([stretch[2]] * (min(end, many) - len(widths)))
    return widths
