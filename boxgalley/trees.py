"""What a tree is, its boxes in their order, and which box lies in which."""

from boxgalley.boxes import alike_of, boxes_in, is_box, is_name, kind_of, name_of, parts_of
from boxgalley.errors import BadBox
from boxgalley.tables import table_rows
from boxgalley.things import is_tuple_of

BOXES_MOST = 60
DEEPEST = 8
TABLE_ROWS = 60
ALIKE_KINDS = ("leaf", "row", "column", "wrap")


def name_told(thing):
    if is_tuple_of(thing, 5) and is_name(name_of(thing)):
        return name_of(thing)
    return None


def may_be_alike(box, in_table):
    return kind_of(box) in ALIKE_KINDS and not in_table


def is_amiss(thing, depth, in_table, names):
    if not is_box(thing):
        return True
    if name_of(thing) in names or len(names) >= BOXES_MOST or depth > DEEPEST:
        return True
    if alike_of(thing) > 0 and not may_be_alike(thing, in_table):
        return True
    return kind_of(thing) == "table" and table_rows(thing) > TABLE_ROWS


def look_through(thing, depth, in_table, names):
    # A box that lies too deep is amiss ahead of its parts, so this goes no deeper than that.
    if is_amiss(thing, depth, in_table, names):
        raise BadBox(name_told(thing))
    names[name_of(thing)] = True
    for part in parts_of(thing):
        look_through(part, depth + 1, in_table or kind_of(thing) == "table", names)


def check_tree(thing):
    look_through(thing, 1, False, {})


def boxes_of(tree):
    return boxes_in(tree)


def elders_of(tree):
    elders = {}
    for box in boxes_in(tree):
        for part in parts_of(box):
            elders[name_of(part)] = name_of(box)
    return elders
