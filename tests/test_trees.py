"""Trees let by and refused, their boxes and elders (2, 9, 10, 27, 31, 35, 36, 37)."""

import copy
import random
import unittest

from boxgalley.errors import BadBox
from boxgalley.trees import boxes_of, check_tree, elders_of
from treesearch import (KINDS, LINED, OWN, first_amiss, flow, leaf, leaves, lined, names_from, nested, over,
                        places_by_search, row, rows_by_search, some_trees, table, words)

PAIR = (("start", 0), ("end", -5))
# A box of each kind, with the name b.
OF_EACH = {
    "leaf": leaf("b", (3, 4)), "row": row("b", leaf("c"), leaf("d")),
    "column": lined("column", "b", leaf("c"), what=(1000, "mid2", "right")),
    "wrap": lined("wrap", "b", what=(5, "end", "left")),
    "table": table("b", 3, [(2, 1), (3, 12)], leaf("c"), leaf("d"), gap=7, side="right"),
    "words": words("b", (("a", "b"), ("c",)), 0), "flow": flow("b", ["left", "right"], leaf("c"), leaf("d")),
    "over": over("b", [PAIR], leaf("c"), leaf("d")),
}
THINGS = (None, True, False, 0, 1, -1, 10 ** 6 + 1, 10 ** 30, "", "a", "b", "row", "left", "start", (), [], (0, 0),
          [0, 0], (1, 0), (0, True), ("a",), ["a"], ((),), (None,), OWN, list(OWN), leaf("x"), list(leaf("x")),
          (0, "start", "left"), [0, "start", "left"], (leaf("x"),), [leaf("x")], ((), 50), ((), (), 50), (PAIR,))
NAMES_WRONG = ("", "B", "bB", "b1", "b b", "b\n", "abcdefghi", "\u00e4", "`", "{", None, True, 0, 1, ("b",), ["b"])


def changed(thing, place, other):
    return thing[:place] + (other,) + thing[place + 1:]


def with_own(box, place, thing):
    return changed(box, 2, changed(box[2], place, thing))


def alike(box, number=1):
    return with_own(box, 5, number)


def around(box):
    """The box as the second part of a row, with one behind it that is amiss, too."""
    return row("top", leaf("ahead"), box, leaf("A"))


class Refusals(unittest.TestCase):
    def let_by(self, thing):
        self.assertIsNone(first_amiss(thing))
        self.assertIsNone(check_tree(thing))

    def refused(self, thing, name):
        with self.assertRaises(BadBox) as caught:
            check_tree(thing)
        self.assertEqual(caught.exception.name, name)
        self.assertEqual(first_amiss(thing), (name,))

    def refused_anywhere(self, box, name="b"):
        self.refused(box, name)
        self.refused(around(box), name)
        self.refused(nested(7, box), name)


class Boxes(Refusals):
    def test_each_kind(self):
        for kind, box in OF_EACH.items():
            self.let_by(box)
            self.let_by(row("top", leaf("ahead"), box))
            self.assertEqual(box[0], kind)
        self.assertEqual(tuple(OF_EACH), KINDS)

    def test_another_kind(self):
        for box in OF_EACH.values():
            for kind in ("", "Leaf", "leaf ", "rows", "none", None, True, False, 0, ("leaf",), ["leaf"], [], ()):
                self.refused_anywhere(changed(box, 0, kind))

    def test_another_name(self):
        for box in OF_EACH.values():
            for name in NAMES_WRONG:
                self.refused_anywhere(changed(box, 1, name), None)
            for name in ("z", "abcdefgh"):
                self.let_by(changed(box, 1, name))

    def test_another_own(self):
        for box in OF_EACH.values():
            for own in (None, True, 0, "", (), [], list(OWN), OWN[:5], OWN + (0,), (OWN,), "abcdef"):
                self.refused_anywhere(changed(box, 2, own))

    def test_wide_and_high(self):
        for box in OF_EACH.values():
            for place in (0, 1):
                for bounds in ((0, 0), (10 ** 6, 10 ** 6), (3, 4)):
                    self.let_by(with_own(box, place, bounds))
                for bounds in ((1, 0), (-1, 0), (-1, -1), (0, 10 ** 6 + 1), (False, 1), (0, True), (0, "1"), ("0", 1),
                               (None, 0), (0, None), (0,), (0, 1, 2), [0, 1], ((0, 1),), None, 5, True, "01"):
                    self.refused_anywhere(with_own(box, place, bounds))

    def test_grow_shrink_rank_and_alike(self):
        for box in OF_EACH.values():
            for place, most in ((2, 99), (3, 99), (4, 9), (5, 9)):
                if place < 5 or box[0] in LINED + ("leaf",):
                    self.let_by(with_own(box, place, most))
                self.let_by(with_own(box, place, 0))
                for thing in (-1, most + 1, 10 ** 30, True, False, None, "1", "", (1,), [1], ()):
                    self.refused_anywhere(with_own(box, place, thing))

    def test_another_what(self):
        for box in OF_EACH.values():
            for what in (None, True, 0, "", "left", [], list(box[3]), (None,), ("a",) * 5, box[3] + (0,)):
                self.refused_anywhere(changed(box, 3, what))
            if box[3] != ():
                self.refused_anywhere(changed(box, 3, box[3][:-1]))

    def test_a_what_of_another_kind(self):
        for kind, box in OF_EACH.items():
            for other, giver in OF_EACH.items():
                if not (kind == other or kind in LINED and other in LINED):
                    self.refused_anywhere(box[:3] + giver[3:])

    def test_other_parts(self):
        for box in OF_EACH.values():
            for parts in (None, True, 0, "", "cd", [], list(box[4]), list(leaves(2))):
                self.refused_anywhere(changed(box, 4, parts))

    def test_no_tuple_of_five(self):
        for box in OF_EACH.values():
            for thing in (list(box), box[:4], box + (0,), box[1:], (box,), [box], "abcde", None, True, 5, ()):
                self.refused_anywhere(thing, None)

    def test_all_things_in_all_places(self):
        for box in OF_EACH.values():
            for place in range(5):
                for thing in THINGS:
                    self.judged(changed(box, place, thing))
            for place in range(6):
                for thing in THINGS:
                    self.judged(with_own(box, place, thing))
            for place in range(len(box[3])):
                for thing in THINGS:
                    self.judged(changed(box, 3, changed(box[3], place, thing)))

    def judged(self, box):
        for thing in (box, around(box)):
            due = first_amiss(thing)
            if due is None:
                self.let_by(thing)
            else:
                self.refused(thing, due[0])


class Whats(Refusals):
    def test_leaves(self):
        for what in ((0, 0), (10 ** 6, 10 ** 6)):
            self.let_by(leaf("b", what))
        for what in ((-1, 0), (0, -1), (10 ** 6 + 1, 0), (0, 10 ** 6 + 1), (True, 0), (0, False), (0,), (0, 0, 0),
                     [0, 0], ("0", 0), (None, 0)):
            self.refused_anywhere(leaf("b", what))

    def test_rows_columns_and_wraps(self):
        for kind in LINED:
            for align in ("start", "end", "mid", "mid2"):
                for side in ("left", "right"):
                    for gap in (0, 1000):
                        self.let_by(lined(kind, "b", leaf("c"), what=(gap, align, side)))
            for what in ((-1, "start", "left"), (1001, "start", "left"), (True, "start", "left"), (0, "left", "left"),
                         (0, "mid3", "left"), (0, "start", "start"), (0, "start"), (0, "start", "left", 0),
                         [0, "start", "left"], (0, None, "left"), (0, "start", None), (0, ["start"], "left")):
                self.refused_anywhere(lined(kind, "b", leaf("c"), what=what))

    def test_tables(self):
        for columns in (1, 12):
            self.let_by(table("b", columns, []))
            self.let_by(table("b", columns, [(columns, 12)], leaf("c"), gap=1000, side="right"))
            self.refused_anywhere(table("b", columns, [(columns + 1, 1)], leaf("c")))
        for columns in (0, 13, -1, True, None, "1", (1,)):
            self.refused_anywhere(table("b", columns, []))
            self.refused_anywhere(table("b", columns, [(1, 1)], leaf("c")))
        for span in ((0, 1), (1, 0), (4, 1), (1, 13), (True, 1), (1, True), (1,), (1, 1, 1), [1, 1], None, 1, "11"):
            self.refused_anywhere(table("b", 3, [(1, 1), span], leaf("c"), leaf("d")))
        for spans in ([], [(1, 1)] * 2):
            self.refused_anywhere(table("b", 3, spans, leaf("c")))
        for gap, side in ((-1, "left"), (1001, "left"), (True, "left"), (0, "start"), (0, None)):
            self.refused_anywhere(table("b", 3, [], gap=gap, side=side))
        self.refused_anywhere(("table", "b", OWN, (3, 0, "left", [(1, 1)]), (leaf("c"),)))

    def test_words(self):
        six, twelve = ("a",) * 6, "abcdefghijkl"
        for said in ((), ((twelve,),), (six,) * 10, (("a",),) * 60, (("!", "~", "$", "&", "{", "}"),)):
            for joint in (0, 999):
                self.let_by(words("b", said, joint))
                self.let_by(flow("b", [], said=said, joint=joint))
        for said in (None, "a", ("a",), [("a",)], (["a"],), ((),), (("",),), ((twelve + "m",),), (("a",) * 7,),
                     (six,) * 10 + (("a",),), (("a",),) * 61, (("a b",),), (("%",),), (("|",),), (("a|b",),),
                     (("a\n",),), (("\u00e4",),), (("\x7f",),), ((1,),), ((None,),), ((True,),), ((("a",),),), 0, True):
            self.refused_anywhere(words("b", said))
            self.refused_anywhere(flow("b", [], said=said))
        for joint in (-1, 1000, True, None, "50", (50,)):
            self.refused_anywhere(words("b", (("a",),), joint))
            self.refused_anywhere(flow("b", [], said=(("a",),), joint=joint))
        self.refused_anywhere(changed(words("b"), 4, (leaf("c"),)))

    def test_flows(self):
        for sides in (("left", "right"), ("right", "right")):
            self.let_by(flow("b", sides, leaf("c"), leaf("d")))
        for sides in (("left",), ("left",) * 3, ("left", "start"), ("left", None), ("left", ("left",)), (0, 0)):
            self.refused_anywhere(flow("b", sides, leaf("c"), leaf("d")))
        self.refused_anywhere(("flow", "b", OWN, (["left"], (), 50), (leaf("c"),)))

    def test_overs(self):
        for word in ("start", "mid", "mid2", "end"):
            for by in (-10 ** 6, 0, 10 ** 6):
                self.let_by(over("b", [((word, by), ("end", 0))], leaf("c"), leaf("d")))
                self.let_by(over("b", [(("end", 0), (word, by))], leaf("c"), leaf("d")))
        for anchor in (("start", 10 ** 6 + 1), ("start", -10 ** 6 - 1), ("left", 0), ("", 0), ("start", True), ("start",),
                       ("start", None), ("start", "0"), (0, "start"), ("start", 0, 0), ["start", 0], "start", None, 0):
            self.refused_anywhere(over("b", [(anchor, ("end", 0))], leaf("c"), leaf("d")))
            self.refused_anywhere(over("b", [(("end", 0), anchor)], leaf("c"), leaf("d")))
        for pairs in ([], [PAIR] * 2, [PAIR[:1]], [PAIR + PAIR[:1]], [list(PAIR)], [None]):
            self.refused_anywhere(over("b", pairs, leaf("c"), leaf("d")))
        self.refused_anywhere(("over", "b", OWN, [], (leaf("c"),)))

    def test_how_many_parts(self):
        pairs = (PAIR,) * 12
        for kind in LINED:
            self.let_by(lined(kind, "b", *leaves(20)))
            self.refused_anywhere(lined(kind, "b", *leaves(21)))
        self.let_by(table("b", 1, [(1, 1)] * 40, *leaves(40)))
        self.refused_anywhere(table("b", 1, [(1, 1)] * 41, *leaves(41)))
        self.let_by(flow("b", ["left"] * 12, *leaves(12)))
        self.refused_anywhere(flow("b", ["left"] * 13, *leaves(13)))
        self.let_by(over("b", pairs[:11], *leaves(12)))
        self.refused_anywhere(over("b", pairs, *leaves(13)))
        self.let_by(over("b", (), leaf("c")))
        self.refused_anywhere(over("b", ()))
        self.refused_anywhere(changed(leaf("b"), 4, leaves(1)))


class Trees(Refusals):
    def test_a_name_twice(self):
        self.refused(row("a", leaf("a")), "a")
        self.refused(row("a", leaf("b"), leaf("c"), leaf("b"), leaf("C")), "b")
        self.refused(row("a", row("b", leaf("c")), row("d", leaf("c"))), "c")
        self.refused(row("a", row("b", leaf("c")), row("c", leaf("B"))), "c")
        self.refused(row("a", row("b", row("c", leaf("a"))), leaf("b")), "a")
        box = leaf("b")
        self.refused(row("a", box, box), "b")

    def test_sixty_boxes(self):
        rows = [lined("column", "r" + "abc"[k], *leaves(18, 18 * k)) for k in range(3)]
        self.let_by(row("top", *rows, leaf("x"), leaf("y")))
        self.refused(row("top", *rows, leaf("x"), leaf("y"), leaf("z")), "z")
        self.refused(row("top", *rows, leaf("x"), leaf("y"), leaf("z"), leaf("last")), "z")
        self.refused(row("top", *rows, row("x", leaf("y"), leaf("z"))), "z")
        self.refused(row("top", *rows, row("x", leaf("y")), leaf("z")), "z")
        self.refused(row("top", *rows, row("x", leaf("y")), leaf("Z")), None)

    def test_eight_deep(self):
        self.let_by(nested(7, leaf("x")))
        self.refused(nested(8, leaf("x")), "x")
        self.refused(nested(9, leaf("x")), "nai")
        self.refused(row("top", leaf("a"), nested(7, leaf("x")), leaf("A")), "x")
        self.let_by(row("top", leaf("a"), nested(6, leaf("x")), leaf("c")))
        deep = nested(6, over("o", (), leaf("x")))
        self.let_by(deep)
        self.refused(row("top", deep), "x")

    def test_sixty_rows(self):
        self.let_by(table("b", 1, [(1, 12)] * 5, *leaves(5)))
        self.refused_anywhere(table("b", 1, [(1, 12)] * 5 + [(1, 1)], *leaves(6)))
        self.let_by(table("b", 2, [(1, 12)] * 10, *leaves(10)))
        self.refused_anywhere(table("b", 2, [(1, 12)] * 10 + [(1, 1)], *leaves(11)))
        self.let_by(table("b", 3, [(2, 12)] * 5 + [(1, 12)] * 5, *leaves(10)))
        self.refused_anywhere(table("b", 3, [(2, 12)] * 5 + [(1, 12)] * 4 + [(2, 1)], *leaves(10)))
        self.let_by(table("b", 12, [(12, 2)] * 20 + [(7, 1)] * 20, *leaves(40)))
        self.refused_anywhere(table("b", 12, [(12, 2)] * 21 + [(7, 1)] * 19, *leaves(40)))

    def test_sixty_rows_by_search(self):
        chance = random.Random(60)
        counts = {True: 0, False: 0}
        for _ in range(150):
            columns, many = chance.randint(1, 4), chance.randint(8, 18)
            spans = [(chance.randint(1, columns), chance.randint(1, 12)) for _ in range(many)]
            due = rows_by_search(columns, spans) <= 60
            counts[due] += 1
            if due:
                self.let_by(table("b", columns, spans, *leaves(many)))
            else:
                self.refused(table("b", columns, spans, *leaves(many)), "b")
        self.assertGreater(min(counts.values()), 20)

    def test_alike_by_kind(self):
        for kind, box in OF_EACH.items():
            for number in (1, 9):
                if kind in ("leaf", "row", "column", "wrap"):
                    self.let_by(alike(box, number))
                    self.let_by(row("top", alike(box, number)))
                else:
                    self.refused_anywhere(alike(box, number))

    def test_alike_in_a_table(self):
        for kind in ("leaf", "row", "column", "wrap"):
            box = alike(OF_EACH[kind])
            self.refused(table("t", 1, [(1, 1)], box), "b")
            self.refused(table("t", 1, [(1, 1)], row("r", row("s", box))), "b")
            self.refused(row("top", table("t", 1, [(1, 1)], over("o", (), flow("f", ["left"], box)))), "b")
            self.let_by(row("top", table("t", 1, [(1, 1)], leaf("u")), box))
            self.let_by(row("top", box, table("t", 1, [(1, 1)], leaf("u"))))
            self.let_by(alike(row("top", table("t", 1, [(1, 1)], leaf("u")), box)))
            self.let_by(over("o", (), flow("f", ["left"], box)))

    def test_the_first_one_amiss(self):
        self.refused(row("a", row("b", leaf("c", (-1, 0))), leaf("d", (-1, 0))), "c")
        self.refused(row("a", row("b", leaf("c")), leaf("d", (-1, 0)), leaf("e", (-1, 0))), "d")
        self.refused(row("a", row("b", leaf("c"), None), leaf("d", (-1, 0))), None)
        self.refused(row("a", leaf("b", (-1, 0)), None), "b")

    def test_a_box_ahead_of_its_parts(self):
        for parts in ((None,), (leaf("B"),), (leaf("top"),), (leaf("c", (-1, 0)),)):
            self.refused(lined("row", "b", *parts, what=(-1, "start", "left")), "b")
            self.refused(row("b", *parts * 21), "b")
            self.refused(row("top", row("b", *parts * 21)), "b")
            self.refused(row("top", leaf("a"), alike(over("b", (), *parts))), "b")
        self.refused(table("b", 1, [(1, 12)] * 6, *[None] * 6), "b")
        self.refused(row("a", row("b"), row("b", leaf("c", (-1, 0)))), "b")


class Whatever(Refusals):
    def test_things(self):
        for thing in THINGS:
            if thing == leaf("x"):
                self.let_by(thing)
            else:
                self.refused(thing, None)

    def test_things_within_each_other(self):
        chance = random.Random(10)
        for _ in range(4000):
            thing = self.some_thing(chance, 4)
            self.judged(thing)
            self.judged(("row", "a", OWN, (0, "start", "left"), thing))
            self.judged(("row", "a", OWN, (0, "start", "left"), (thing, leaf("b"))))

    def some_thing(self, chance, deep):
        if deep == 0 or chance.random() < 0.3:
            return chance.choice(THINGS + KINDS)
        inner = [self.some_thing(chance, deep - 1) for _ in range(chance.choice((0, 1, 2, 3, 5, 5, 5, 6)))]
        if len(inner) == 5 and chance.random() < 0.8:
            box = chance.choice(list(OF_EACH.values()))
            inner = [chance.choice((mine, mine, mine, mine, other)) for mine, other in zip(box, inner)]
        return chance.choice((tuple, tuple, tuple, list))(inner)

    def judged(self, thing):
        before = copy.deepcopy(thing)
        due = first_amiss(thing)
        if due is None:
            self.let_by(thing)
        else:
            self.refused(thing, due[0])
        self.assertEqual(thing, before)

    def test_trees_bent_in_one_place(self):
        chance = random.Random(9)
        for tree in some_trees(120):
            for _ in range(10):
                self.judged(self.bent(chance, tree))

    def bent(self, chance, thing):
        if not isinstance(thing, tuple) or thing == () or chance.random() < 0.1:
            return chance.choice(THINGS)
        place = chance.randrange(len(thing))
        if chance.random() < 0.05:
            return thing[:place] + thing[place + 1:]
        if chance.random() < 0.05:
            return thing[:place] + (chance.choice(thing),) + thing[place:]
        return changed(thing, place, self.bent(chance, thing[place]))

    def test_things_far_within_each_other(self):
        deep = ()
        for _ in range(100000):
            deep = (deep,)
        far = leaf("x")
        for _ in range(100000):
            far = row("a", far)
        ring = []
        ring.append(ring)
        for thing, name in ((deep, None), (ring, None), (far, "a"), (row("a", deep), None), (row("a", ring), None)):
            with self.assertRaises(BadBox) as caught:
                check_tree(thing)
            self.assertEqual(caught.exception.name, name)
        for place in range(5):
            for thing in (deep, ring):
                with self.assertRaises(BadBox):
                    check_tree(changed(OF_EACH["row"], place, thing))

    def test_many_parts(self):
        with self.assertRaises(BadBox) as caught:
            check_tree(row("a", *[None] * 10 ** 5))
        self.assertEqual(caught.exception.name, "a")

    def test_what_is_refused_is_refused_again(self):
        thing = ["row", "a", OWN, (0, "start", "left"), [leaf("b")]]
        before = copy.deepcopy(thing)
        for _ in range(2):
            with self.assertRaises(BadBox):
                check_tree(thing)
            self.assertEqual(thing, before)
            check_tree(row("a", leaf("b")))


class Order(unittest.TestCase):
    def setUp(self):
        self.inner = row("z", leaf("b"), row("y"), leaf("a"))
        self.last = table("c", 2, [(2, 1)], over("d", (), leaf("e")))
        self.tree = row("m", leaf("x"), self.inner, self.last, leaf("f"))

    def test_boxes(self):
        told = boxes_of(self.tree)
        due = [self.tree, self.tree[4][0], self.inner, self.inner[4][0], self.inner[4][1], self.inner[4][2], self.last,
               self.last[4][0], self.last[4][0][4][0], self.tree[4][3]]
        self.assertIsInstance(told, list)
        self.assertEqual([box[1] for box in told], ["m", "x", "z", "b", "y", "a", "c", "d", "e", "f"])
        self.assertEqual([id(box) for box in told], [id(box) for box in due])

    def test_a_box_alone(self):
        box = leaf("a")
        self.assertEqual(boxes_of(box), [box])
        self.assertEqual(elders_of(box), {})

    def test_elders(self):
        self.assertEqual(elders_of(self.tree), {"x": "m", "z": "m", "c": "m", "f": "m", "b": "z", "y": "z", "a": "z",
                                                "d": "c", "e": "d"})

    def test_by_walking_through(self):
        def walk(box, elder):
            yield box, elder
            for part in box[4]:
                yield from walk(part, box[1])
        for tree in some_trees(200):
            due = list(walk(tree, None))
            self.assertEqual([id(box) for box in boxes_of(tree)], [id(box) for box, _ in due])
            self.assertEqual(elders_of(tree), {box[1]: elder for box, elder in due[1:]})
            self.assertEqual(set(elders_of(tree)), {box[1] for box, _ in due} - {tree[1]})

    def test_what_is_told_is_the_askers_own(self):
        for ask in (boxes_of, elders_of):
            told, before = ask(self.tree), ask(self.tree)
            told.clear()
            self.assertEqual(ask(self.tree), before)

    def test_sixty_boxes_eight_deep(self):
        names = names_from(60)
        tree = nested(7, row("x", *leaves(20, 7)))
        self.assertEqual([box[1] for box in boxes_of(tree)], names[:7] + ["x"] + names[7:27])
        self.assertEqual([elders_of(tree)[name] for name in names[1:7]], names[:6])


class Search(unittest.TestCase):
    def test_the_search_itself(self):
        self.assertEqual(places_by_search(3, [(2, 1), (2, 1), (1, 2)]), [(0, 0), (1, 0), (0, 2)])
        self.assertEqual(rows_by_search(3, [(2, 1), (2, 1), (1, 2)]), 2)


if __name__ == "__main__":
    unittest.main()
