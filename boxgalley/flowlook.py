"""The small checker of floats."""

from boxgalley.flows import edges_at, left_end, place_across, right_end, touches, touching
from boxgalley.things import is_list_of, is_tuple_of, is_whole


def is_placed(thing, name, wide, high):
    if not (is_tuple_of(thing, 5) and isinstance(thing[0], str) and all([is_whole(number) for number in thing[1:]])):
        return False
    return (thing[0], thing[3], thing[4]) == (name, wide, high)


def is_triple(thing):
    return is_tuple_of(thing, 3) and is_whole(thing[0]) and isinstance(thing[1], str) and isinstance(thing[2], str)


def is_paper(thing):
    return isinstance(thing, list) and all([is_triple(triple) for triple in thing])


def in_the_way(floats, standing, side, rows, high):
    # One that is in the way at the first row and at the last is so at each row between.
    found = touching(floats, standing, side, rows[0], high)
    return [placed for placed in found if touches(placed, rows[1], high)]


def can_not_stand(W, floats, standing, rows, names):
    wide = floats[len(standing)][2]
    high = floats[len(standing)][3]
    lefts = {"": 0}
    for placed in in_the_way(floats, standing, "left", rows, high):
        lefts[placed[0]] = right_end(placed)
    rights = {"": W}
    for placed in in_the_way(floats, standing, "right", rows, high):
        rights[placed[0]] = left_end(placed)
    return names[0] in lefts and names[1] in rights and rights[names[1]] - lefts[names[0]] < wide


def stands(W, floats, standing, row, placed, paper):
    for till, left, right in paper:
        if not (row < till and can_not_stand(W, floats, standing, (row, till - 1), (left, right))):
            return False
        row = till
    side = floats[len(standing)][1]
    edges = edges_at(W, floats, standing, row, placed[4])
    if edges[1] - edges[0] < placed[3]:
        return False
    return (placed[1], placed[2]) == (place_across(side, placed[3], edges), row)


def stood(W, floats, standing, papers):
    if not (is_list_of(standing, len(floats)) and is_list_of(papers, len(floats))):
        return False
    row = 0
    for number, thing in enumerate(floats):
        placed = standing[number]
        if not (is_placed(placed, thing[0], thing[2], thing[3]) and is_paper(papers[number])):
            return False
        if not stands(W, floats, standing[:number], row, placed, papers[number]):
            return False
        row = placed[2]
    return True
