"""Whole trees of tables, words, flows and overs, measured kind by kind (12, 13, 16, 22, 31, 35, 37)."""

import random
import unittest

from boxgalley.kinds import high_asked, paper_of, part_widths, wide_asked
from boxsearch import flow_asks, flow_floats, flow_told, some_said, table_asks, words_asks, words_by_search
from search import flat
from treesearch import flow, leaf, names_from, over, table, words

MOST = 10 ** 6


def some_part(chance, names, deep):
    kinds = ("table", "flow", "over", "words", "leaf") if deep < 4 and len(names) > 4 else ("words", "leaf")
    kind, name = chance.choice(kinds), names.pop()
    bounds = [tuple(sorted((chance.choice((0, 0, 2, 9)), chance.choice((3, 9, MOST))))) for _ in range(2)]
    own = (*bounds, 0, 1, 0, 0)
    if kind == "leaf":
        return leaf(name, (chance.randint(0, 9), chance.randint(0, 6)), own)
    if kind == "words":
        return words(name, some_said(chance, 4), chance.choice((0, 50)), own)
    parts = [some_part(chance, names, deep + 1) for _ in range(chance.randint(1 if kind == "over" else 0, 3)) if names]
    if kind == "table":
        columns = chance.randint(1, 3)
        spans = [(chance.randint(1, columns), chance.randint(1, 3)) for _ in parts]
        return table(name, columns, spans, *parts, gap=chance.choice((0, 1, 5)), own=own)
    if kind == "flow":
        sides = [chance.choice(("left", "right")) for _ in parts]
        return flow(name, sides, *parts, said=some_said(chance, 4), own=own)
    if not parts:
        return leaf(name, own=own)
    return over(name, [(("mid", 0), ("end", -1))] * (len(parts) - 1), *parts, own=own)


def some_trees(many):
    chance, trees = random.Random(16), []
    while len(trees) < many:
        tree = some_part(chance, names_from(12), 1)
        if tree[4]:
            trees.append(tree)
    return trees


class ByProgram:
    def wide(self, box, wides):
        return wide_asked(box, wides)

    def widths(self, box, width, wides):
        return part_widths(box, width, wides)

    def high(self, box, width, wides, highs):
        return high_asked(box, highs, paper_of(box, width, wides, highs))


class BySearch:
    def wide(self, box, wides):
        if box[0] == "over":
            return wides[box[4][0][1]]
        if box[0] == "words":
            return words_asks(box[3][0])
        return table_asks(box, wides, False) if box[0] == "table" else flow_asks(box, wides)

    def widths(self, box, width, wides):
        if box[0] == "flow":
            return {name: wide for name, _, wide, _ in flow_floats(box, width, wides, wides)[1]}
        names = [part[1] for part in box[4]]
        return {name: width if name == names[0] else min(width, wides[name][1]) for name in names}

    def high(self, box, width, wides, highs):
        if box[0] == "over":
            return highs[box[4][0][1]]
        if box[0] == "table":
            return table_asks(box, highs, True)
        said, joint = box[3][-2:]
        if box[0] == "words":
            widths, many, first, end = [max(width, words_asks(said)[0], 1)], len(flat(said)) or 1, 0, 0
        else:
            _, _, standing, widths, many, first = flow_told(box, width, wides, highs)
            end = max([placed[2] + placed[4] for placed in standing], default=0)
        last = words_by_search(said, joint, widths, many)[0][1]
        rows = max(end, first + last + 1) if said else end
        return (rows, rows, MOST)


def put_on(bounds, asked):
    """Point 12."""
    least = max(bounds[0], asked[0])
    most = max(least, min(bounds[1], asked[2]))
    return (least, min(max(asked[1], least), most), most)


def measured_wide(box, account, wides):
    for part in box[4]:
        measured_wide(part, account, wides)
    asked = (0, box[3][0], MOST) if box[0] == "leaf" else account.wide(box, wides)
    wides[box[1]] = put_on(box[2][0], asked)


def laid_wide(box, width, account, wides, widths):
    widths[box[1]] = width
    # How a table's width is shared is not asked here: each part may have its wish.
    inner = {part[1]: wides[part[1]][1] for part in box[4]}
    if box[0] in ("flow", "over"):
        inner = account.widths(box, width, wides)
    for part in box[4]:
        laid_wide(part, inner[part[1]], account, wides, widths)


def measured_high(box, account, wides, widths, highs):
    for part in box[4]:
        measured_high(part, account, wides, widths, highs)
    asked = (0, box[3][1], MOST) if box[0] == "leaf" else account.high(box, widths[box[1]], wides, highs)
    highs[box[1]] = put_on(box[2][1], asked)


def measured(tree, width, account):
    wides, widths, highs = {}, {}, {}
    measured_wide(tree, account, wides)
    laid_wide(tree, width, account, wides, widths)
    measured_high(tree, account, wides, widths, highs)
    return wides, widths, highs


class Trees(unittest.TestCase):
    def test_measured_alike_by_both_accounts(self):
        kinds = {"table": 0, "flow": 0, "over": 0}
        for number, tree in enumerate(some_trees(500)):
            width = (0, 3, 8, 20)[number % 4]
            self.assertEqual(measured(tree, width, ByProgram()), measured(tree, width, BySearch()), tree)
            kinds[tree[0]] += 1
        self.assertGreater(min(kinds.values()), 100)

    def test_measures_are_in_order(self):
        for tree in some_trees(100):
            wides, _, highs = measured(tree, 9, ByProgram())
            for measure in list(wides.values()) + list(highs.values()):
                self.assertEqual(sorted(measure), list(measure))

    def test_a_float_s_height_is_that_for_its_width(self):
        said = tuple(("aa",) for _ in range(6))
        inner = words("w", said, own=((0, 5), (0, MOST), 0, 1, 0, 0))
        tree = flow("f", ["left"], inner)
        wides, widths, highs = measured(tree, 20, ByProgram())
        self.assertEqual((wides["w"], widths["w"], highs["w"][1], highs["f"][1]), ((2, 5, 5), 5, 3, 3))
        wides, widths, highs = measured(tree, 3, ByProgram())
        self.assertEqual((widths["w"], highs["w"][1], highs["f"][1]), (3, 6, 6))


if __name__ == "__main__":
    unittest.main()
