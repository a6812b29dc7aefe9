"""What a box is, and which boxes a tree has."""

from boxgalley.overtree import is_over_what
from boxgalley.things import is_between, is_tuple_of
from boxgalley.wordtree import is_flow_what, is_side, is_words_what

NAME_LONGEST = 8
SIZE_MOST = 1000000
WEIGHT_MOST = 99
RANK_MOST = 9
ALIKE_MOST = 9
LINED = ("row", "column", "wrap")
LINED_PARTS = 20
ALIGNS = ("start", "end", "mid", "mid2")
GAP_MOST = 1000
TABLE_PARTS = 40
TABLE_COLUMNS = 12
SPAN_MOST = 12


def kind_of(box):
    return box[0]


def name_of(box):
    return box[1]


def own_of(box):
    return box[2]


def what_of(box):
    return box[3]


def parts_of(box):
    return box[4]


def wide_of(box):
    return own_of(box)[0]


def high_of(box):
    return own_of(box)[1]


def grow_of(box):
    return own_of(box)[2]


def shrink_of(box):
    return own_of(box)[3]


def rank_of(box):
    return own_of(box)[4]


def alike_of(box):
    return own_of(box)[5]


def boxes_in(tree):
    boxes = []
    to_come = [tree]
    while to_come != []:
        box = to_come.pop()
        boxes.append(box)
        # The last one is taken first, so the parts are laid by the other way round.
        to_come.extend(list(reversed(parts_of(box))))
    return boxes


def is_name(thing):
    return isinstance(thing, str) and 1 <= len(thing) <= NAME_LONGEST and all(["a" <= sign <= "z" for sign in thing])


def is_size(thing):
    return is_between(thing, 0, SIZE_MOST)


def is_bounds(thing):
    return is_tuple_of(thing, 2) and is_size(thing[0]) and is_size(thing[1]) and thing[0] <= thing[1]


def is_own(thing):
    if not (is_tuple_of(thing, 6) and is_bounds(thing[0]) and is_bounds(thing[1])):
        return False
    if not (is_between(thing[2], 0, WEIGHT_MOST) and is_between(thing[3], 0, WEIGHT_MOST)):
        return False
    return is_between(thing[4], 0, RANK_MOST) and is_between(thing[5], 0, ALIKE_MOST)


def is_leaf_what(what, many):
    return many == 0 and is_tuple_of(what, 2) and is_size(what[0]) and is_size(what[1])


def is_gap(thing):
    return is_between(thing, 0, GAP_MOST)


def is_align(thing):
    return isinstance(thing, str) and thing in ALIGNS


def is_lined_what(what, many):
    if not (many <= LINED_PARTS and is_tuple_of(what, 3)):
        return False
    return is_gap(what[0]) and is_align(what[1]) and is_side(what[2])


def is_span(thing, columns):
    return is_tuple_of(thing, 2) and is_between(thing[0], 1, columns) and is_between(thing[1], 1, SPAN_MOST)


def is_table_what(what, many):
    if not (many <= TABLE_PARTS and is_tuple_of(what, 4)):
        return False
    if not (is_between(what[0], 1, TABLE_COLUMNS) and is_gap(what[1]) and is_side(what[2])):
        return False
    return is_tuple_of(what[3], many) and all([is_span(span, what[0]) for span in what[3]])


def is_what(kind, what, many):
    if kind in LINED:
        return is_lined_what(what, many)
    if kind == "leaf":
        return is_leaf_what(what, many)
    if kind == "table":
        return is_table_what(what, many)
    if kind == "words":
        return is_words_what(what, many)
    if kind == "flow":
        return is_flow_what(what, many)
    return kind == "over" and is_over_what(what, many)


def is_box(thing):
    # What its parts are is asked of each of them, not of it.
    if not (is_tuple_of(thing, 5) and is_name(name_of(thing)) and is_own(own_of(thing))):
        return False
    return isinstance(parts_of(thing), tuple) and is_what(kind_of(thing), what_of(thing), len(parts_of(thing)))
