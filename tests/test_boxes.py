"""What a box is, and which boxes a tree has (2, 9, 10)."""

import copy
import unittest

from boxgalley.boxes import (alike_of, boxes_in, grow_of, high_of, is_box, is_name, is_own, kind_of, name_of, own_of,
                             parts_of, rank_of, shrink_of, what_of, wide_of)

OWN = ((0, 10 ** 6), (0, 10 ** 6), 0, 1, 0, 0)
THINGS = (None, True, False, 0, 1, -1, 10 ** 30, "", "a", "leaf", "left", (), [], (0, 0), [0, 0], (0, True), ("a",),
          (0, "start", "left"), ((),), ("a", "b", "c", "d", "e"), OWN)
WHATS = {
    "leaf": ((3, 4), ()),
    "row": ((0, "start", "left"), (1,)), "column": ((1000, "mid2", "right"), ()), "wrap": ((5, "end", "left"), (1, 2)),
    "table": ((2, 3, "right", ((1, 12), (2, 1))), (1, 2)),
    "words": (((("a", "b"),), 50), ()), "flow": ((("left",), (), 0), (1,)),
    "over": (((("mid", 1), ("end", -1)),), (1, 2)),
}


def leaf(name):
    return ("leaf", name, OWN, (1, 1), ())


def row(name, *parts):
    return ("row", name, OWN, (0, "start", "left"), parts)


def with_own(place, thing):
    return OWN[:place] + (thing,) + OWN[place + 1:]


def made(kind, what, many):
    return (kind, "a", OWN, what, (None,) * many)


class Parts(unittest.TestCase):
    def test_a_box(self):
        box = ("row", "abc", ((1, 2), (3, 4), 5, 6, 7, 8), (0, "mid", "right"), (leaf("b"),))
        self.assertEqual((kind_of(box), name_of(box), own_of(box), what_of(box), parts_of(box)), box)
        self.assertEqual((wide_of(box), high_of(box), grow_of(box), shrink_of(box), rank_of(box), alike_of(box)),
                         box[2])


class Trees(unittest.TestCase):
    def test_a_box_alone(self):
        self.assertEqual(boxes_in(leaf("a")), [leaf("a")])

    def test_each_ahead_of_its_parts_these_in_their_order(self):
        inner = row("z", leaf("b"), row("y"), leaf("a"))
        last = row("c", row("d", leaf("e")))
        tree = row("m", leaf("x"), inner, last, leaf("f"))
        self.assertEqual(boxes_in(tree), [tree, leaf("x"), inner, leaf("b"), row("y"), leaf("a"), last,
                                          row("d", leaf("e")), leaf("e"), leaf("f")])

    def test_deeper_than_a_tree_may_be(self):
        tree = leaf("a")
        for _ in range(2000):
            tree = row("b", tree)
        self.assertEqual([name_of(box) for box in boxes_in(tree)], ["b"] * 2000 + ["a"])

    def test_what_is_told_is_the_askers_own(self):
        tree = row("m", leaf("x"), row("z", leaf("b")))
        told = boxes_in(tree)
        before = list(told)
        told.clear()
        self.assertEqual(boxes_in(tree), before)


class Names(unittest.TestCase):
    def test_names(self):
        for name in ("a", "z", "az", "abcdefgh"):
            self.assertIs(is_name(name), True)
        for thing in ("", "abcdefghi", "A", "aB", "a1", "a b", "a\n", "\u00e4", "`", "{", None, 1, True, ("a",), ["a"]):
            self.assertIs(is_name(thing), False)


class Owns(unittest.TestCase):
    def test_bounds(self):
        for place in (0, 1):
            for thing in ((0, 0), (5, 5), (10 ** 6, 10 ** 6), (0, 10 ** 6)):
                self.assertIs(is_own(with_own(place, thing)), True)
            for thing in ((1, 0), (-1, 0), (0, 10 ** 6 + 1), (0,), (0, 1, 2), [0, 1], (False, True), (0, "1"), None, 5):
                self.assertIs(is_own(with_own(place, thing)), False)

    def test_numbers(self):
        for place, most in ((2, 99), (3, 99), (4, 9), (5, 9)):
            self.assertEqual([is_own(with_own(place, number)) for number in (-1, 0, 1, most, most + 1)],
                             [False, True, True, True, False])
            for thing in (True, False, None, "1", (1,)):
                self.assertIs(is_own(with_own(place, thing)), False)

    def test_other_things(self):
        for thing in (list(OWN), OWN[:5], OWN + (0,), None, 1, "abcdef", ()):
            self.assertIs(is_own(thing), False)


class Boxes(unittest.TestCase):
    def test_all_kinds(self):
        for kind, (what, parts) in WHATS.items():
            self.assertIs(is_box((kind, "a", OWN, what, parts)), True, kind)

    def test_a_what_of_another_kind(self):
        lined = ("row", "column", "wrap")
        for kind in WHATS:
            for other, (what, parts) in WHATS.items():
                due = kind == other or (kind in lined and other in lined)
                self.assertIs(is_box((kind, "a", OWN, what, parts)), due, (kind, other))

    def test_other_things_in_its_places(self):
        for kind, (what, parts) in WHATS.items():
            box = (kind, "a", OWN, what, parts)
            wrong = {1: (None, True, 0, "", "A", "abcdefghi", ("a",), ["a"]),
                     2: (None, True, 0, "", (), [], list(OWN), OWN[:5], OWN + (0,)),
                     3: (None, True, 0, "", "left", [], list(what), (None,), (True, False), ("a",) * 5),
                     4: (None, True, 0, "", "ab", [], list(parts), (None,) * 41)}
            for place, things in wrong.items():
                for thing in things:
                    bent = box[:place] + (thing,) + box[place + 1:]
                    self.assertIs(is_box(bent), False, bent)

    def test_whatever_stands_in_its_places_is_no_error(self):
        for kind, (what, parts) in WHATS.items():
            box = (kind, "a", OWN, what, parts)
            for place in range(5):
                for thing in THINGS:
                    self.assertIn(is_box(box[:place] + (thing,) + box[place + 1:]), (True, False))

    def test_no_tuple_of_five(self):
        box = leaf("a")
        for thing in THINGS + (list(box), box[:4], box + (0,)):
            self.assertIs(is_box(thing), False)

    def test_kinds(self):
        for kind in ("", "Leaf", "leaf ", "rows", "over2", None, 0, True, ("leaf",), ["leaf"], []):
            for what, parts in WHATS.values():
                self.assertIs(is_box((kind, "a", OWN, what, parts)), False)

    def test_the_parts_own_faults_are_aside(self):
        for part in THINGS:
            self.assertIs(is_box(("row", "a", OWN, (0, "start", "left"), (part,))), True)

    def test_leaves(self):
        for what in ((0, 0), (10 ** 6, 10 ** 6)):
            self.assertIs(is_box(made("leaf", what, 0)), True)
            self.assertIs(is_box(made("leaf", what, 1)), False)
        for what in ((-1, 0), (0, 10 ** 6 + 1), (0, True), (0,), (0, 0, 0), [0, 0], None, ("0", 0)):
            self.assertIs(is_box(made("leaf", what, 0)), False)

    def test_rows_columns_and_wraps(self):
        for kind in ("row", "column", "wrap"):
            self.assertEqual([is_box(made(kind, (0, "start", "left"), many)) for many in (0, 1, 20, 21)],
                             [True, True, True, False])
            for align in ("start", "end", "mid", "mid2"):
                for side in ("left", "right"):
                    self.assertIs(is_box(made(kind, (1000, align, side), 2)), True)
            for what in ((-1, "start", "left"), (1001, "start", "left"), (True, "start", "left"), (0, "left", "left"),
                         (0, "start", "start"), (0, "start"), (0, "start", "left", 0), [0, "start", "left"],
                         (0, None, "left"), (0, ("start",), "left"), (0, "start", None)):
                self.assertIs(is_box(made(kind, what, 2)), False)

    def test_tables(self):
        for columns, due in ((0, False), (1, True), (12, True), (13, False), (True, False)):
            self.assertIs(is_box(made("table", (columns, 0, "left", ()), 0)), due)
        self.assertEqual([is_box(made("table", (1, 0, "left", ((1, 1),) * many), many)) for many in (0, 40, 41)],
                         [True, True, False])
        for span, due in (((1, 1), True), ((3, 12), True), ((4, 1), False), ((1, 13), False), ((0, 1), False),
                          ((1, 0), False), ((1,), False), ((1, 1, 1), False), ([1, 1], False), ((True, 1), False),
                          ((1, True), False), (None, False)):
            self.assertIs(is_box(made("table", (3, 5, "right", ((1, 1), span)), 2)), due, span)
        for what in ((3, 1001, "left", ((1, 1),)), (3, 0, "start", ((1, 1),)), (3, 0, "left", ()),
                     (3, 0, "left", ((1, 1),) * 2), (3, 0, "left", [(1, 1)]), (3, 0, "left"), [3, 0, "left", ((1, 1),)],
                     (3, -1, "left", ((1, 1),)), ("3", 0, "left", ((1, 1),))):
            self.assertIs(is_box(made("table", what, 1)), False)

    def test_words_flows_and_overs(self):
        self.assertIs(is_box(made("words", ((("a", "b"),), 999), 0)), True)
        self.assertIs(is_box(made("words", ((("a", "b"),), 1000), 0)), False)
        self.assertIs(is_box(made("words", ((("a", "b"),), 999), 1)), False)
        self.assertIs(is_box(made("flow", (("left",) * 12, (("a",),), 50), 12)), True)
        self.assertIs(is_box(made("flow", (("left",) * 13, (("a",),), 50), 13)), False)
        self.assertIs(is_box(made("over", (), 1)), True)
        self.assertIs(is_box(made("over", (), 0)), False)
        self.assertIs(is_box(made("over", (((("start", 0)), ("end", 10 ** 6)),), 2)), True)
        self.assertIs(is_box(made("over", (((("start", 0)), ("end", 10 ** 6 + 1)),), 2)), False)

    def test_nothing_is_changed(self):
        for thing in (["row", "a", [[0]], [], [[]]], ("row", "a", OWN, [0, "start", "left"], [leaf("b")])):
            before = copy.deepcopy(thing)
            is_box(thing)
            self.assertEqual(thing, before)


if __name__ == "__main__":
    unittest.main()
