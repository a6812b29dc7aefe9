"""Floats row by row, without the program's own means."""

import random


def rows_of(placed):
    return set(range(placed[2], placed[2] + placed[4]))


def edges(width, floats, standing, rows):
    """The edges by the floats ahead that touch one of these rows."""
    near = [(thing[1], placed) for thing, placed in zip(floats, standing) if rows_of(placed) & set(rows)]
    left = max([placed[1] + placed[3] for side, placed in near if side == "left"], default=0)
    right = min([placed[1] for side, placed in near if side == "right"], default=width)
    return left, right


def stand_by_rows(width, floats):
    """The floats that stand, or the name of the first that is wider than the room."""
    for name, _, wide, _ in floats:
        if wide > width:
            return name
    standing, row = [], 0
    for name, side, wide, high in floats:
        while True:
            left, right = edges(width, floats, standing, range(row, row + high))
            if right - left >= wide:
                break
            row += 1
        standing.append((name, left if side == "left" else right - wide, row, wide, high))
    return standing


def look_rows(standing):
    return [0] + [placed[2] for placed in standing[:-1]]


def blocked(width, floats, ahead, number, row, left, right):
    """Whether these two are in the way of the float of this number, were it to stand at the row."""
    _, _, wide, high = floats[number]
    ends = {"left": [0] if left == "" else [], "right": [width] if right == "" else []}
    for thing, placed in zip(floats, ahead):
        if rows_of(placed) & set(range(row, row + high)):
            if thing[1] == "left" and thing[0] == left:
                ends["left"].append(placed[1] + placed[3])
            if thing[1] == "right" and thing[0] == right:
                ends["right"].append(placed[1])
    return bool(ends["left"] and ends["right"]) and ends["right"][0] - ends["left"][0] < wide


def paper_shows(width, floats, standing, number, paper):
    """The conditions of 33 on the paper of one float, of those that stand by 32."""
    row = look_rows(standing)[number]
    for till, left, right in paper:
        if till <= row:
            return False
        if not all(blocked(width, floats, standing[:number], number, each, left, right) for each in range(row, till)):
            return False
        row = till
    return row == standing[number][2]


def stretch_list(width, floats, standing):
    """The stretch of each row up to the first one beneath all floats."""
    last = max([placed[2] + placed[4] for placed in standing], default=0)
    told = []
    for row in range(last + 1):
        left, right = edges(width, floats, standing, [row])
        told.append((left, right - left))
    return told


def mirrored_floats(floats):
    return [(name, {"left": "right", "right": "left"}[side], wide, high) for name, side, wide, high in floats]


def small_floats(many, most, top):
    """So many cases (width, floats), always the same ones."""
    chance = random.Random(32)
    cases = []
    for _ in range(many):
        width = chance.randint(0 if most > 5 else 3, top)
        names = chance.sample("abcdefghijklm", chance.randint(0, most))
        wide = width + 1 if chance.random() < 0.05 else width
        cases.append((width, [(name, chance.choice(("left", "right")), chance.randint(1, max(1, wide)) if
                               chance.random() < 0.4 else chance.randint(1, max(1, wide // 2)),
                               chance.randint(1, 5)) for name in names]))
    return cases
