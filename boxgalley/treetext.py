"""A tree's text, and the tree that a text tells."""

from boxgalley.boxes import LINED, kind_of, name_of, own_of, parts_of, what_of
from boxgalley.errors import BadBox, NoTree
from boxgalley.trees import check_tree

# The words of a row in their order, each with what goes without saying.
PLAIN = {
    "wide": "0..1000000", "high": "0..1000000", "grow": "0", "shrink": "1", "rank": "0", "alike": "0",
    "wish": "0,0", "columns": "1", "gap": "0", "align": "start", "side": "left", "joint": "50",
    "span": "1,1", "float": "left", "at": "start,0,start,0", "text": "",
}
INDENT = "  "
FIGURES_MOST = 7


class TextRow:
    def __init__(self, depth, kind, name, told):
        self.depth = depth
        self.kind = kind
        self.name = name
        self.told = told


def joined(things, sign):
    return sign.join([str(thing) for thing in things])


def own_told(own):
    return {
        "wide": joined(own[0], ".."), "high": joined(own[1], ".."),
        "grow": str(own[2]), "shrink": str(own[3]), "rank": str(own[4]), "alike": str(own[5]),
    }


def words_text(words):
    return " ".join(["|".join(word) for word in words])


def what_told(kind, what):
    if kind in LINED:
        return {"gap": str(what[0]), "align": what[1], "side": what[2]}
    if kind == "leaf":
        return {"wish": joined(what, ",")}
    if kind == "table":
        return {"columns": str(what[0]), "gap": str(what[1]), "side": what[2]}
    if kind == "words":
        return {"text": words_text(what[0]), "joint": str(what[1])}
    if kind == "flow":
        return {"text": words_text(what[1]), "joint": str(what[2])}
    return {}


def part_told(elder, place):
    what = what_of(elder)
    if kind_of(elder) == "table":
        return {"span": joined(what[3][place], ",")}
    if kind_of(elder) == "flow":
        return {"float": what[0][place]}
    if kind_of(elder) == "over" and place > 0:
        pair = what[place - 1]
        return {"at": joined(pair[0] + pair[1], ",")}
    return {}


def row_text(box, as_part):
    told = own_told(own_of(box))
    told.update(what_told(kind_of(box), what_of(box)))
    told.update(as_part)
    words = [kind_of(box), name_of(box)]
    for word, plain in PLAIN.items():
        if told.get(word, plain) != plain:
            words.append(word + "=" + told[word])
    return " ".join(words)


def text_rows(box, depth, as_part):
    rows = [INDENT * depth + row_text(box, as_part)]
    for place, part in enumerate(parts_of(box)):
        rows.extend(text_rows(part, depth + 1, part_told(box, place)))
    return rows


def tree_text(tree):
    return "\n".join(text_rows(tree, 0, {}))


def number_read(text):
    figures = text[1:] if text.startswith("-") else text
    if not (1 <= len(figures) <= FIGURES_MOST and all(["0" <= sign <= "9" for sign in figures])):
        raise NoTree()
    return int(text)


def fields_read(text, sign, many):
    fields = text.split(sign)
    if len(fields) != many:
        raise NoTree()
    return fields


def pair_read(text, sign):
    return tuple([number_read(field) for field in fields_read(text, sign, 2)])


def anchors_read(text):
    fields = fields_read(text, ",", 4)
    return ((fields[0], number_read(fields[1])), (fields[2], number_read(fields[3])))


def words_read(text):
    if text == "":
        return ()
    return tuple([tuple(word.split("|")) for word in text.split(" ")])


def own_read(told):
    numbers = [number_read(told[word]) for word in ("grow", "shrink", "rank", "alike")]
    return (pair_read(told["wide"], ".."), pair_read(told["high"], "..")) + tuple(numbers)


def what_read(kind, told, parts_told):
    if kind in LINED:
        return (number_read(told["gap"]), told["align"], told["side"])
    if kind == "leaf":
        return pair_read(told["wish"], ",")
    if kind == "table":
        spans = tuple([pair_read(part["span"], ",") for part in parts_told])
        return (number_read(told["columns"]), number_read(told["gap"]), told["side"], spans)
    if kind == "words":
        return (words_read(told["text"]), number_read(told["joint"]))
    if kind == "flow":
        sides = tuple([part["float"] for part in parts_told])
        return (sides, words_read(told["text"]), number_read(told["joint"]))
    if kind == "over":
        return tuple([anchors_read(part["at"]) for part in parts_told[1:]])
    raise NoTree()


def row_read(row):
    bare = row.lstrip(" ")
    halves = bare.partition(" text=")
    words = halves[0].split(" ")
    if len(words) < 2:
        raise NoTree()
    told = dict(PLAIN)
    for word in words[2:]:
        pair = word.partition("=")
        told[pair[0]] = pair[2]
    told["text"] = halves[2]
    return TextRow((len(row) - len(bare)) // len(INDENT), words[0], words[1], told)


def box_read(row, parts):
    what = what_read(row.kind, row.told, [told for box, told in parts])
    return (row.kind, row.name, own_read(row.told), what, tuple([box for box, told in parts]))


def outermost_read(rows):
    # From the last row on, so that a box comes when all its parts are there: by how deep they lie, those whose elder
    # is still to come.
    waiting = {}
    for row in reversed(rows):
        parts = list(reversed(waiting.pop(row.depth + 1, [])))
        waiting.setdefault(row.depth, []).append((box_read(row, parts), row.told))
    if list(waiting) != [0] or len(waiting[0]) != 1:
        raise NoTree()
    return waiting[0][0][0]


def read_tree(text):
    tree = outermost_read([row_read(row) for row in text.split("\n")])
    try:
        check_tree(tree)
    except BadBox:
        raise NoTree() from None
    # Rows are read with a light hand; whatever is written otherwise than a tree's text is found here, sign by sign.
    if tree_text(tree) != text:
        raise NoTree()
    return tree
