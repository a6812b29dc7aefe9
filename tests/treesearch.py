"""What a tree and its text are, told once more by other means than the program's; and trees to try."""

import random
import re

OWN = ((0, 10 ** 6), (0, 10 ** 6), 0, 1, 0, 0)
LINED = ("row", "column", "wrap")
KINDS = ("leaf", "row", "column", "wrap", "table", "words", "flow", "over")
ALIGNS = ("start", "end", "mid", "mid2")
PIECE = r"[!-$&-{}~]{1,12}"
WORD = rf"{PIECE}(?:\|{PIECE})*"
FIGURES = r"(?:0|[1-9][0-9]{0,6})"
ANCHOR = rf"(?:start|mid2|mid|end),(?:-[1-9][0-9]{{0,6}}|{FIGURES})"
# Each word of a row with its form and what goes without saying.
FORMS = {
    "wide": (rf"{FIGURES}\.\.{FIGURES}", "0..1000000"), "high": (rf"{FIGURES}\.\.{FIGURES}", "0..1000000"),
    "grow": (FIGURES, "0"), "shrink": (FIGURES, "1"), "rank": (FIGURES, "0"), "alike": (FIGURES, "0"),
    "wish": (f"{FIGURES},{FIGURES}", "0,0"), "columns": (FIGURES, "1"), "gap": (FIGURES, "0"),
    "align": ("start|end|mid2|mid", "start"), "side": ("left|right", "left"), "joint": (FIGURES, "50"),
    "span": (f"{FIGURES},{FIGURES}", "1,1"), "float": ("left|right", "left"),
    "at": (f"{ANCHOR},{ANCHOR}", "start,0,start,0"), "text": (f"{WORD}(?: {WORD})*", ""),
}
OF_ALL = ["wide", "high", "grow", "shrink", "rank", "alike"]
OF_KIND = {"leaf": ["wish"], "table": ["columns", "gap", "side"], "words": ["joint"], "flow": ["joint"], "over": [],
           "row": ["gap", "align", "side"], "column": ["gap", "align", "side"], "wrap": ["gap", "align", "side"]}
OF_ELDER = {"table": ["span"], "flow": ["float"], "over": ["at"]}


def leaf(name, what=(0, 0), own=OWN):
    return ("leaf", name, own, what, ())


def lined(kind, name, *parts, what=(0, "start", "left"), own=OWN):
    return (kind, name, own, what, parts)


def row(name, *parts):
    return lined("row", name, *parts)


def table(name, columns, spans, *parts, gap=0, side="left", own=OWN):
    return ("table", name, own, (columns, gap, side, tuple(spans)), parts)


def words(name, said=(), joint=50, own=OWN):
    return ("words", name, own, (said, joint), ())


def flow(name, sides, *parts, said=(), joint=50, own=OWN):
    return ("flow", name, own, (tuple(sides), said, joint), parts)


def over(name, pairs, *parts, own=OWN):
    return ("over", name, own, tuple(pairs), parts)


def names_from(many, first=0):
    """So many names, none twice."""
    letters = "abcdefghijklmnopqrstuvwxyz"
    return ["n" + letters[k // 26] + letters[k % 26] for k in range(first, first + many)]


def leaves(many, first=0):
    return tuple(leaf(name) for name in names_from(many, first))


def nested(deep, inner, kind="row"):
    """So many rows around a box."""
    for name in reversed(names_from(deep)):
        inner = lined(kind, name, inner)
    return inner


def cells_of(place, span):
    return {(place[0] + down, place[1] + across) for down in range(span[1]) for across in range(span[0])}


def places_by_search(columns, spans):
    """Of all places in a floor that is high enough the least one that does, part by part."""
    taken, places = set(), []
    high = sum(span[1] for span in spans)
    for span in spans:
        fit = [(down, across) for down in range(high) for across in range(columns) if across + span[0] <= columns]
        place = min(each for each in fit if not cells_of(each, span) & taken)
        taken |= cells_of(place, span)
        places.append(place)
    return places


def rows_by_search(columns, spans):
    taken = set().union(*(cells_of(place, span) for place, span in zip(places_by_search(columns, spans), spans)))
    return len({down for down, _ in taken})


def is_number(thing, least, most):
    return thing.__class__ is int and thing in range(least, most + 1)


def are(thing, many, *checks):
    """Whether it is a tuple of so many, each as its check says; one check alone is for all."""
    if thing.__class__ is not tuple or len(thing) != many:
        return False
    checks = checks * many if len(checks) == 1 else checks
    return all(check(each) for check, each in zip(checks, thing))


def number(least, most):
    return lambda thing: is_number(thing, least, most)


def one_of(*texts):
    return lambda thing: thing.__class__ is str and thing in texts


def is_pair(thing):
    return are(thing, 2, number(0, 10 ** 6)) and thing[0] <= thing[1]


def is_said(thing):
    if thing.__class__ is not tuple:
        return False
    for word in thing:
        if word.__class__ is not tuple or not 1 <= len(word) <= 6:
            return False
        if not all(piece.__class__ is str and re.fullmatch(PIECE, piece) for piece in word):
            return False
    return sum(len(word) for word in thing) <= 60


def is_anchors(thing):
    return are(thing, 2, lambda each: are(each, 2, one_of(*ALIGNS), number(-10 ** 6, 10 ** 6)))


def what_may_be(kind, what, many):
    side, gap, joint = one_of("left", "right"), number(0, 1000), number(0, 999)
    if kind == "leaf":
        return many == 0 and are(what, 2, number(0, 10 ** 6))
    if kind in LINED:
        return many <= 20 and are(what, 3, gap, one_of(*ALIGNS), side)
    if kind == "table":
        if many > 40 or not are(what, 4, number(1, 12), gap, side, lambda spans: spans.__class__ is tuple):
            return False
        return len(what[3]) == many and all(are(each, 2, number(1, what[0]), number(1, 12)) for each in what[3])
    if kind == "words":
        return many == 0 and are(what, 2, is_said, joint)
    if kind == "flow":
        return many <= 12 and are(what, 3, lambda sides: are(sides, many, side), is_said, joint)
    return 1 <= many <= 12 and are(what, many - 1, is_anchors)


def box_may_be(thing):
    if thing.__class__ is not tuple or len(thing) != 5 or not one_of(*KINDS)(thing[0]):
        return False
    own = are(thing[2], 6, is_pair, is_pair, number(0, 99), number(0, 99), number(0, 9), number(0, 9))
    named = thing[1].__class__ is str and re.fullmatch("[a-z]{1,8}", thing[1])
    return bool(named and own and thing[4].__class__ is tuple and what_may_be(thing[0], thing[3], len(thing[4])))


def first_amiss(thing):
    """None where it is a tree; else a tuple with the name that its first box amiss has."""
    spots, seen = [(thing, ())], set()
    while spots:
        box, around = spots.pop(0)
        named = box.__class__ is tuple and len(box) == 5 and box[1].__class__ is str
        name = box[1] if named and re.fullmatch("[a-z]{1,8}", box[1]) else None
        if not box_may_be(box) or name in seen or len(seen) == 60 or len(around) == 8:
            return (name,)
        if box[2][5] and (box[0] in ("table", "words", "flow", "over") or "table" in around):
            return (name,)
        if box[0] == "table" and rows_by_search(box[3][0], box[3][3]) > 60:
            return (name,)
        seen.add(name)
        spots[:0] = [(part, around + (box[0],)) for part in box[4]]
    return None


def words_due(kind, elder, first):
    told = OF_ALL + OF_KIND[kind] + ([] if elder == "over" and first else OF_ELDER.get(elder, []))
    return told + (["text"] if kind in ("words", "flow") else [])


def row_strictly(line, depth, elder, first):
    """The kind, the name and the words of a row, or None."""
    head = re.fullmatch(rf"( *)({'|'.join(KINDS)}) ([a-z]{{1,8}})((?: .*)?)", line, re.DOTALL)
    if head is None or len(head[1]) != 2 * depth:
        return None
    due = words_due(head[2], elder, first)
    form = "".join(rf"(?: {word}=(?P<{word}>{FORMS[word][0]}))?" for word in due)
    found = re.fullmatch(form, head[4])
    if found is None or any(found[word] == FORMS[word][1] for word in due):
        return None
    return head[2], head[3], {word: found[word] or FORMS[word][1] for word in due}


def numbers(text, sign):
    return tuple(int(each) for each in text.split(sign))


def what_strictly(kind, told, things):
    if kind == "leaf":
        return numbers(told["wish"], ",")
    if kind in LINED:
        return (int(told["gap"]), told["align"], told["side"])
    if kind == "table":
        return (int(told["columns"]), int(told["gap"]), told["side"], tuple(numbers(each, ",") for each in things))
    if kind == "over":
        split = [each.split(",") for each in things[1:]]
        return tuple(((a, int(b)), (c, int(d))) for a, b, c, d in split)
    said = tuple(tuple(word.split("|")) for word in told["text"].split(" ")) if told["text"] else ()
    return (said, int(told["joint"])) if kind == "words" else (tuple(things), said, int(told["joint"]))


def box_strictly(lines, depth, elder, first):
    """The box of the first line, with what it is as a part; its lines are taken away. Or None."""
    read = row_strictly(lines.pop(0), depth, elder, first)
    if read is None or depth > 8:
        return None
    kind, name, told = read
    parts, things = [], []
    while lines and lines[0].startswith("  " * (depth + 1)):
        inner = box_strictly(lines, depth + 1, kind, parts == [])
        if inner is None:
            return None
        parts.append(inner[0])
        things.append(inner[1])
    own = (numbers(told["wide"], ".."), numbers(told["high"], "..")) + tuple(int(told[word]) for word in OF_ALL[2:])
    thing = [told[word] for word in OF_ELDER.get(elder, []) if word in told]
    return (kind, name, own, what_strictly(kind, told, things), tuple(parts)), (thing + [None])[0]


def read_strictly(text):
    """The tree of a text, or None where it isn't a tree's."""
    lines = text.split("\n")
    read = box_strictly(lines, 0, None, False)
    if read is None or lines or first_amiss(read[0]) is not None:
        return None
    return read[0]


def some_own(chance, alike):
    if chance.random() < 0.5:
        return OWN
    bounds = [tuple(sorted((chance.choice((0, 3, 70)), chance.choice((0, 3, 500, 10 ** 6))))) for _ in range(2)]
    return (*bounds, chance.choice((0, 1, 99)), chance.choice((0, 1, 99)), chance.choice((0, 9)),
            chance.choice((0, 1, 9)) if alike else 0)


def some_words(chance):
    pieces = ("a", "text=a", "gap=3", "~}{!", "-", "=", "abcdefghijkl", "b,c", "0..1")
    return tuple(tuple(chance.choice(pieces) for _ in range(chance.randint(1, 3))) for _ in range(chance.randint(0, 4)))


def some_box(chance, names, deep, in_table):
    kind = chance.choice(KINDS if deep < 5 else ("leaf", "words"))
    name, own = names.pop(), some_own(chance, kind in LINED + ("leaf",) and not in_table)
    most = 0 if kind in ("leaf", "words") else min(4, len(names) // 3)
    if kind == "over" and most == 0:
        return leaf(name, own=own)
    many = chance.randint(1 if kind == "over" else 0, most)
    parts = ()
    while len(parts) < many and names:
        parts += (some_box(chance, names, deep + 1, in_table or kind == "table"),)
    anchor = lambda: (chance.choice(ALIGNS), chance.choice((0, 0, 5, -7, -10 ** 6, 10 ** 6)))
    sides, gap = ("left", "right"), chance.choice((0, 0, 1, 1000))
    what = (gap, chance.choice(ALIGNS), chance.choice(sides))
    if kind == "leaf":
        what = (chance.choice((0, 4, 10 ** 6)), chance.choice((0, 4, 10 ** 6)))
    elif kind == "table":
        columns = chance.randint(1, 4)
        spans = tuple((chance.randint(1, columns), chance.choice((1, 1, 2, 12))) for _ in parts)
        what = (columns, gap, chance.choice(sides), spans)
    elif kind in ("words", "flow"):
        what = (some_words(chance), chance.choice((0, 50, 999)))
        what = what if kind == "words" else (tuple(chance.choice(sides) for _ in parts),) + what
    elif kind == "over":
        what = tuple((anchor(), anchor()) for _ in parts[1:])
    return (kind, name, own, what, parts)


def some_trees(many):
    """So many trees, always the same ones."""
    chance = random.Random(11)
    trees = []
    for _ in range(many):
        names = names_from(60)
        chance.shuffle(names)
        trees.append(some_box(chance, names, 1, False))
    return trees
