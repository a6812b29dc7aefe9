"""Which what a box words or flow has, and what is none."""

from boxgalley.things import is_between, is_tuple_of

SIDES = ("left", "right")
JOINT_MOST = 999
PIECE_LONGEST = 12
WORD_PIECES = 6
WORDS_PIECES = 60
FLOW_PARTS = 12

# Signs by their numbers, as the percent sign may not be written in a text.
FIRST_SIGN = 33
LAST_SIGN = 126
PERCENT_SIGN = 37
BAR_SIGN = 124


def is_side(thing):
    return isinstance(thing, str) and thing in SIDES


def is_joint(thing):
    return is_between(thing, 0, JOINT_MOST)


def is_sign(sign):
    number = ord(sign)
    return FIRST_SIGN <= number <= LAST_SIGN and number != PERCENT_SIGN and number != BAR_SIGN


def is_piece(thing):
    return isinstance(thing, str) and 1 <= len(thing) <= PIECE_LONGEST and all([is_sign(sign) for sign in thing])


def is_word(thing):
    return isinstance(thing, tuple) and 1 <= len(thing) <= WORD_PIECES and all([is_piece(piece) for piece in thing])


def is_words(thing):
    if not (isinstance(thing, tuple) and all([is_word(word) for word in thing])):
        return False
    return sum([len(word) for word in thing]) <= WORDS_PIECES


def is_words_what(what, many):
    return many == 0 and is_tuple_of(what, 2) and is_words(what[0]) and is_joint(what[1])


def are_sides(thing, many):
    return is_tuple_of(thing, many) and all([is_side(side) for side in thing])


def is_flow_what(what, many):
    if not (many <= FLOW_PARTS and is_tuple_of(what, 3)):
        return False
    return are_sides(what[0], many) and is_words(what[1]) and is_joint(what[2])
