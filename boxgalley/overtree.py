"""Which what a box over has, and what is none."""

from boxgalley.things import is_between, is_tuple_of

ANCHOR_WORDS = ("start", "mid", "mid2", "end")
ANCHOR_FARTHEST = 1000000
OVER_PARTS = 12


def is_anchor_word(thing):
    return isinstance(thing, str) and thing in ANCHOR_WORDS


def is_anchor(thing):
    if not is_tuple_of(thing, 2):
        return False
    return is_anchor_word(thing[0]) and is_between(thing[1], -ANCHOR_FARTHEST, ANCHOR_FARTHEST)


def is_anchor_pair(thing):
    return is_tuple_of(thing, 2) and is_anchor(thing[0]) and is_anchor(thing[1])


def is_over_what(what, many):
    if not (1 <= many <= OVER_PARTS and is_tuple_of(what, many - 1)):
        return False
    return all([is_anchor_pair(pair) for pair in what])
