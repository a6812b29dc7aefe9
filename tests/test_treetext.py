"""Trees' texts told and read (2, 11, 27, 31, 35, 36, 37)."""

import random
import unittest

from boxgalley.errors import BoxError, NoTree
from boxgalley.trees import check_tree
from boxgalley.treetext import read_tree, tree_text
from treesearch import (KINDS, OWN, flow, leaf, leaves, lined, nested, over, read_strictly, row, some_trees, table,
                        words)

FULL = ((1, 2), (3, 4), 5, 6, 7, 8)
# A text of all kinds, with all words.
ALL_KINDS = """column m wide=0..90 high=2..1000000 grow=3 shrink=0 rank=9 alike=2 gap=1 align=mid2 side=right
  leaf a wish=7,0
  row b align=end
    wrap c shrink=2 gap=10
  table d columns=3 gap=2 side=right
    leaf e wish=0,5 span=2,1
    words f joint=3 span=1,12 text=to gal|ley it
  flow g joint=0 text=gap=3 text=x|~
    leaf h float=right
    over i grow=1
      leaf j
      leaf k at=mid,-3,end,40
      words l at=start,0,start,1"""
SIGNS = "ab0129 =.,|-%~\nAx"


def own_with(**told):
    places = ("wide", "high", "grow", "shrink", "rank", "alike")
    return tuple(told.get(word, plain) for word, plain in zip(places, OWN))


class Told(unittest.TestCase):
    def told(self, tree, text):
        check_tree(tree)
        self.assertEqual(tree_text(tree), text)
        self.assertEqual(read_tree(text), tree)
        self.assertEqual(read_strictly(text), tree)

    def test_each_kind_with_what_goes_without_saying(self):
        self.told(leaf("a"), "leaf a")
        for kind in ("row", "column", "wrap"):
            self.told(lined(kind, "abcdefgh"), f"{kind} abcdefgh")
        self.told(table("t", 1, []), "table t")
        self.told(words("w"), "words w")
        self.told(flow("f", []), "flow f")
        self.told(over("o", [], leaf("a")), "over o\n  leaf a")

    def test_own(self):
        self.told(leaf("a", own=own_with(wide=(0, 999999))), "leaf a wide=0..999999")
        self.told(leaf("a", own=own_with(wide=(1, 10 ** 6))), "leaf a wide=1..1000000")
        self.told(leaf("a", own=own_with(high=(0, 0))), "leaf a high=0..0")
        self.told(leaf("a", own=own_with(high=(10 ** 6, 10 ** 6))), "leaf a high=1000000..1000000")
        self.told(leaf("a", own=own_with(grow=1)), "leaf a grow=1")
        self.told(leaf("a", own=own_with(shrink=0)), "leaf a shrink=0")
        self.told(leaf("a", own=own_with(shrink=99)), "leaf a shrink=99")
        self.told(leaf("a", own=own_with(rank=9)), "leaf a rank=9")
        self.told(leaf("a", own=own_with(alike=9)), "leaf a alike=9")
        self.told(leaf("a", own=own_with(grow=1, shrink=1)), "leaf a grow=1")

    def test_own_of_each_kind(self):
        told = "wide=1..2 high=3..4 grow=5 shrink=6 rank=7"
        for kind in ("row", "column", "wrap"):
            self.told(lined(kind, "a", own=FULL), f"{kind} a {told} alike=8")
        plain = FULL[:5] + (0,)
        self.told(table("a", 2, [], own=plain), f"table a {told} columns=2")
        self.told(words("a", own=plain), f"words a {told}")
        self.told(flow("a", [], own=plain), f"flow a {told}")
        self.told(over("a", [], leaf("b", own=FULL), own=plain), f"over a {told}\n  leaf b {told} alike=8")

    def test_leaves(self):
        for what in ((0, 1), (1, 0), (7, 3), (10 ** 6, 10 ** 6)):
            self.told(leaf("a", what), f"leaf a wish={what[0]},{what[1]}")
        self.told(leaf("a", (2, 3), FULL), "leaf a wide=1..2 high=3..4 grow=5 shrink=6 rank=7 alike=8 wish=2,3")

    def test_rows_columns_and_wraps(self):
        for kind in ("row", "column", "wrap"):
            for gap in (0, 1, 50, 1000):
                for align in ("start", "end", "mid", "mid2"):
                    for side in ("left", "right"):
                        due = [kind, "a"] + [f"gap={gap}"] * (gap > 0)
                        due += [f"align={align}"] * (align != "start") + [f"side={side}"] * (side != "left")
                        self.told(lined(kind, "a", what=(gap, align, side)), " ".join(due))

    def test_tables(self):
        self.told(table("t", 12, [(12, 12), (1, 1), (1, 2), (2, 1)], *leaves(4), gap=1, side="right"),
                  "table t columns=12 gap=1 side=right\n  leaf naa span=12,12\n  leaf nab\n  leaf nac span=1,2\n"
                  "  leaf nad span=2,1")

    def test_words(self):
        self.told(words("w", (("a",),)), "words w text=a")
        self.told(words("w", (("a", "b"), ("c",)), 0), "words w joint=0 text=a|b c")
        self.told(words("w", (("text=a",), ("joint=3", "=")), 999), "words w joint=999 text=text=a joint=3|=")
        self.told(words("w", (), 49), "words w joint=49")
        self.told(words("w", (("a",) * 6,) * 10), "words w text=" + " ".join(["a|a|a|a|a|a"] * 10))
        signs = [chr(number) for number in range(33, 127) if chr(number) not in "%|"]
        for at in (0, 40):
            self.told(words("w", tuple((sign,) for sign in signs[at:at + 60])), "words w text=" +
                      " ".join(signs[at:at + 60]))

    def test_flows(self):
        self.told(flow("f", ["left", "right", "right"], leaf("a"), row("b", leaf("c")), words("d", (("x",),), 1),
                       said=(("y", "z"),), joint=2),
                  "flow f joint=2 text=y|z\n  leaf a\n  row b float=right\n    leaf c\n"
                  "  words d joint=1 float=right text=x")

    def test_overs(self):
        start = ("start", 0)
        pairs = [(start, start), (("start", 1), start), (start, ("end", 0)), (("mid", -10 ** 6), ("mid2", 10 ** 6)),
                 (("mid2", -1), ("start", 5))]
        self.told(over("o", pairs, *leaves(6)),
                  "over o\n  leaf naa\n  leaf nab\n  leaf nac at=start,1,start,0\n  leaf nad at=start,0,end,0\n"
                  "  leaf nae at=mid,-1000000,mid2,1000000\n  leaf naf at=mid2,-1,start,5")

    def test_parts_of_each_kind_in_each_elder(self):
        inner = {"leaf": (leaf("b", (1, 2)), "wish=1,2", ""), "row": (lined("row", "b", what=(3, "mid", "right")),
                 "gap=3 align=mid side=right", ""), "table": (table("b", 2, [], gap=4, side="right"),
                 "columns=2 gap=4 side=right", ""), "words": (words("b", (("x", "y"),), 7), "joint=7", " text=x|y"),
                 "flow": (flow("b", [], said=(("z",),), joint=8), "joint=8", " text=z")}
        for kind, (box, ahead, last) in inner.items():
            self.told(row("m", box), f"row m\n  {kind} b {ahead}{last}")
            self.told(table("m", 3, [(3, 4)], box), f"table m columns=3\n  {kind} b {ahead} span=3,4{last}")
            self.told(flow("m", ["right"], box), f"flow m\n  {kind} b {ahead} float=right{last}")
            self.told(over("m", [(("end", 0), ("mid", 9))], leaf("a"), box),
                      f"over m\n  leaf a\n  {kind} b {ahead} at=end,0,mid,9{last}")
            self.told(over("m", [], box), f"over m\n  {kind} b {ahead}{last}")

    def test_two_blanks_for_each_box_around(self):
        names = [f"na{letter}" for letter in "abcdefg"]
        due = ["  " * deep + f"row {name}" for deep, name in enumerate(names)]
        self.told(nested(7, leaf("x")), "\n".join(due + ["  " * 7 + "leaf x"]))
        self.told(row("a", row("b", leaf("c")), leaf("d"), row("e", row("f"), leaf("g"))),
                  "row a\n  row b\n    leaf c\n  leaf d\n  row e\n    row f\n    leaf g")

    def test_all_kinds(self):
        tree = read_strictly(ALL_KINDS)
        self.told(tree, ALL_KINDS)
        self.assertEqual({line.split()[0] for line in ALL_KINDS.split("\n")}, set(KINDS))

    def test_many_trees(self):
        texts = {}
        for tree in some_trees(600):
            text = tree_text(tree)
            self.told(tree, text)
            self.assertIn(texts.setdefault(text, tree), [tree])

    def test_sixty_boxes(self):
        rows = [lined("column", "r" + "abc"[k], *leaves(18, 18 * k)) for k in range(3)]
        text = tree_text(row("top", *rows, leaf("x"), leaf("y")))
        self.assertEqual(text.count("\n"), 59)
        self.told(row("top", *rows, leaf("x"), leaf("y")), text)

    def test_told_alike_again(self):
        tree = read_tree(ALL_KINDS)
        for _ in range(2):
            self.assertEqual(tree_text(tree), ALL_KINDS)
            self.assertEqual(read_tree(ALL_KINDS), tree)


class Refused(unittest.TestCase):
    def refused(self, text):
        with self.assertRaises(NoTree, msg=text):
            read_tree(text)
        self.assertIsNone(read_strictly(text), text)

    def judged(self, text):
        """Whether the text is a tree's; the program must say the same."""
        due = read_strictly(text)
        if due is None:
            self.refused(text)
            return False
        self.assertEqual(read_tree(text), due)
        self.assertEqual(tree_text(due), text)
        return True

    def test_an_own_error(self):
        with self.assertRaises(BoxError) as caught:
            read_tree("")
        self.assertIs(type(caught.exception), NoTree)

    def test_no_text_and_row_ends(self):
        for text in ("", "\n", "\n\n", " ", "  ", "leaf a\n", "\nleaf a", "row a\n\n  leaf b", "row a\n  leaf b\n",
                     "row a\n  leaf b\n  ", "leaf a\r\n", "row a\r\n  leaf b", "row a\r  leaf b", "row a\x0b  leaf b",
                     "row a\u2028  leaf b", "row a\x85  leaf b", "leaf a\x00", "\ufeffleaf a"):
            self.refused(text)

    def test_kinds_and_names(self):
        for text in ("leaf", "a", "leaf ", " leaf a", "  leaf a", "leaf a ", "leaf  a", "leaf\ta", "leaf A", "leaf a1",
                     "leaf abcdefghi", "leaf \u00e4", "Leaf a", "leaves a", "none a", " a", "leaf a b", "a leaf",
                     "over a", "leaf wish=1,2", "words text=a", "leaf=a b"):
            self.refused(text)

    def test_every_row_sign_by_sign(self):
        many = 0
        for line in ("leaf a wide=10..20 wish=1,2", "row b grow=1 gap=5 align=mid2 side=right", "table c columns=12",
                     "words d shrink=0 joint=9 text=a|b c", "flow e rank=3 alike=0 text=x=y", "wrap f high=3..30"):
            for text in self.bent_signs(line):
                many += self.judged(text)
        self.assertGreater(many, 300)

    def bent_signs(self, text):
        for place in range(len(text) + 1):
            yield text[:place] + text[place + 1:]
            for sign in SIGNS:
                yield text[:place] + sign + text[place:]
                yield text[:place] + sign + text[place + 1:]

    def test_all_kinds_sign_by_sign(self):
        due = read_strictly(ALL_KINDS)
        for place in range(len(ALL_KINDS) + 1):
            for bent in (ALL_KINDS[:place] + ALL_KINDS[place + 1:], ALL_KINDS[:place] + " " + ALL_KINDS[place:],
                         ALL_KINDS[:place] + "0" + ALL_KINDS[place:], ALL_KINDS[:place] + "z" + ALL_KINDS[place + 1:],
                         ALL_KINDS[:place] + "\n" + ALL_KINDS[place:]):
                if self.judged(bent) and bent != ALL_KINDS:
                    self.assertNotEqual(read_tree(bent), due)

    def test_rows_left_out_twice_or_moved(self):
        lines = ALL_KINDS.split("\n")
        many = 0
        for place in range(len(lines)):
            rest = lines[:place] + lines[place + 1:]
            many += self.judged("\n".join(rest))
            self.refused("\n".join(lines[:place + 1] + lines[place:]))
            for other in range(len(rest) + 1):
                many += self.judged("\n".join(rest[:other] + [lines[place]] + rest[other:]))
        self.assertGreater(many, len(lines))

    def test_rows_too_deep_or_not_deep_enough(self):
        for text in ("row a\n leaf b", "row a\n   leaf b", "row a\n    leaf b", "row a\nleaf b", "  row a\n    leaf b",
                     "row a\n  row b\n      leaf c", "row a\n  row b\n      leaf c\n  leaf d",
                     "row a\n  row b\n    row d\n  row e\n      leaf c", "row a\n\tleaf b", "row a\n  leaf b\nrow c",
                     "leaf a\n  leaf b", "words a\n  leaf b", "row a\n  leaf b\n    leaf c"):
            self.refused(text)

    def test_a_word_twice_or_in_another_order(self):
        for line in ("leaf a wide=1..2 high=3..4 grow=5 shrink=6 rank=7 alike=8 wish=1,2",
                     "row a grow=5 gap=1 align=end side=right", "table a rank=1 columns=2 gap=1 side=right"):
            said = line.split(" ")
            self.assertTrue(self.judged(line))
            for place in range(2, len(said)):
                self.refused(" ".join(said + [said[place]]))
                self.refused(" ".join(said[:place] + [said[place]] + said[place:]))
                for other in range(place + 1, len(said)):
                    swapped = list(said)
                    swapped[place], swapped[other] = said[other], said[place]
                    self.refused(" ".join(swapped))
        self.assertTrue(self.judged("words a joint=3 text=x joint=3"))
        self.refused("words a text=x joint=3 %")
        self.refused("words a joint=3 joint=3 text=x")
        self.refused("table a\n  words b span=1,2 joint=3 text=x")
        self.refused("flow a\n  words b float=right joint=3 text=x")

    def test_what_goes_without_saying(self):
        for word in ("wide=0..1000000", "high=0..1000000", "grow=0", "shrink=1", "rank=0", "alike=0"):
            for kind in KINDS:
                self.refused(f"{kind} a {word}" + "\n  leaf b" * (kind == "over"))
        for text in ("leaf a wish=0,0", "table a columns=1", "row a gap=0", "column a align=start", "wrap a side=left",
                     "table a gap=0", "table a side=left", "words a joint=50", "flow a joint=50", "words a text=",
                     "flow a text=", "words a joint=3 text=", "table a\n  leaf b span=1,1", "flow a\n  leaf b float=left",
                     "over a\n  leaf b\n  leaf c at=start,0,start,0"):
            self.refused(text)

    def test_words_that_are_not_due(self):
        every = ("wide=1..2", "high=1..2", "grow=1", "shrink=2", "rank=1", "alike=1", "wish=1,1", "columns=2", "gap=1",
                 "align=mid", "side=right", "joint=1", "span=1,2", "float=right", "at=end,0,end,0", "text=x", "none=1",
                 "kind=leaf", "name=b", "=", "=1", "wide", "text", "Wide=1..2", "WIDE=1..2", "parts=1", "what=1")
        for word in every:
            for kind in KINDS:
                inner = "\n  leaf z" * (kind == "over")
                self.judged(f"{kind} a {word}{inner}")
                for elder in ("row m", "table m columns=2", "flow m", "over m", "over m\n  leaf y"):
                    self.judged(f"{elder}\n  {kind} a {word}" + inner.replace("  ", "    "))

    def test_numbers(self):
        forms = ("leaf a wide={}..1000000", "leaf a high=0..{}", "leaf a grow={}", "leaf a shrink={}", "leaf a rank={}",
                 "leaf a alike={}", "leaf a wish={},0", "leaf a wish=0,{}", "table a columns={}", "row a gap={}",
                 "words a joint={}", "table a columns=12\n  leaf b span={},2", "table a\n  leaf b span=1,{}",
                 "over a\n  leaf b\n  leaf c at=mid,{},end,0", "over a\n  leaf b\n  leaf c at=mid,3,end,{}")
        for form in forms:
            good = [number for number in ("0", "1", "2", "9", "10", "12", "13", "50", "51", "99", "100", "999", "1000",
                                          "1001", "999999", "1000000", "1000001", "9999999", "10000000", "-1",
                                          "-1000000", "-1000001") if self.judged(form.format(number))]
            self.assertGreater(len(good), 2, form)
            for number in ("", "-", "00", "01", "02", "007", "-0", "-01", "+2", " 2", "2 ", "2_0", "2.0", "0x2", "2e1",
                           "\u0662", "\u00b2", "two", "--2", "1" * 5000, "-" + "1" * 5000, "0" * 5000, "None", "True"):
                self.refused(form.format(number))

    def test_bounds(self):
        for kind in ("wide", "high"):
            for value in ("2..1", "1..", "..1", "1", "1...2", "1..2..3", "1.2", "1,2", "", "..", "1..2.", "-1..2"):
                self.refused(f"leaf a {kind}={value}")
        for value in ("1", "1,", ",1", "1,2,3", "1..2", "", ",", "1, 2"):
            self.refused(f"leaf a wish={value}")
            self.refused(f"table a columns=3\n  leaf b span={value}")
        for value in ("", "start", "start,0", "start,0,end", "start,0,end,1,2", "left,0,end,1", "start,0,,1", "0,start,0,end",
                      "start,0;end,1", "Start,0,end,1", "start,0,end, 1"):
            self.refused(f"over a\n  leaf b\n  leaf c at={value}")

    def test_aligns_and_sides(self):
        for kind in ("row", "column", "wrap"):
            for align in ("", "left", "mid3", "Mid", "middle", "mid,2"):
                self.refused(f"{kind} a align={align}")
            for side in ("", "start", "Right", "right,", "top"):
                self.refused(f"{kind} a side={side}")
        self.refused("table a align=mid")
        self.refused("flow a\n  leaf b float=mid")
        self.refused("over a\n  leaf b at=end,0,end,0")
        self.refused("row a\n  leaf b at=end,0,end,0")

    def test_texts_of_words(self):
        for said in (" ", "a ", " a", "a  b", "|", "a|", "|a", "a||b", "%", "a%b", "abcdefghijklm", "a|b|c|d|e|f|g",
                     "\u00e4", "a\tb", "a\x7f", " ".join("a" * 61), "a |b", "a| b"):
            self.refused(f"words w text={said}")
            self.refused(f"flow w joint=0 text={said}")
        self.refused("leaf a text=x")
        self.refused("over a text=x\n  leaf b")

    def test_texts_of_what_is_no_tree(self):
        self.refused("row a\n  leaf a")
        self.refused("row a\n  row b\n    leaf c\n  leaf c")
        self.refused("\n".join(["row a"] + [f"  leaf b{letter}" for letter in "abcdefghijklmnopqrstu"]))
        self.refused(tree_text(nested(8, leaf("x"))))
        self.refused(tree_text(nested(300, leaf("x"))))
        rows = [lined("column", "r" + "abc"[k], *leaves(18, 18 * k)) for k in range(3)]
        self.refused(tree_text(row("top", *rows, leaf("x"), leaf("y"), leaf("z"))))
        self.refused(tree_text(table("t", 1, [(1, 12)] * 5 + [(1, 1)], *leaves(6))))
        self.refused(tree_text(table("t", 1, [(2, 1)], leaf("a"))))
        self.refused("table t\n  leaf a alike=1")
        self.refused("table t\n  row b\n    leaf a alike=1")
        self.refused("table t alike=1")
        self.refused("over t alike=1\n  leaf a")
        self.refused("words t alike=1")
        self.refused("flow t alike=1")

    def test_many_texts_bent(self):
        chance = random.Random(47)
        for tree in some_trees(300):
            text = tree_text(tree)
            for _ in range(15):
                place, till = sorted((chance.randrange(len(text) + 1), chance.randrange(len(text) + 1)))
                sign = chance.choice(SIGNS + text)
                self.judged(chance.choice((text[:place] + sign + text[place:], text[:place] + text[place + 1:],
                                           text[:place] + sign + text[place + 1:], text[:place] + text[till:],
                                           text[:till] + text[place:])))

    def test_great_texts(self):
        for text in ("row a\n" * 20000, "  " * 20000 + "leaf a", "words a text=" + "a " * 50000, "leaf a " * 20000,
                     "leaf " + "a" * 10 ** 5, "row a\n" + "  leaf b\n" * 20000):
            with self.assertRaises(NoTree):
                read_tree(text)


if __name__ == "__main__":
    unittest.main()
