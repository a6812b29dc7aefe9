"""Of what kind a thing is that may be anything."""


def is_whole(thing):
    # A truth is an int to Python, but no whole number here.
    return isinstance(thing, int) and not isinstance(thing, bool)


def is_between(thing, least, most):
    return is_whole(thing) and least <= thing <= most


def is_tuple_of(thing, many):
    return isinstance(thing, tuple) and len(thing) == many


def is_list_of(thing, many):
    return isinstance(thing, list) and len(thing) == many
