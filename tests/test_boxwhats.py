"""Which what a box words, flow or over has (9, 10, 27, 31, 35, 36, 37)."""

import copy
import unittest

from boxgalley.overtree import is_anchor, is_over_what
from boxgalley.things import is_between, is_list_of, is_tuple_of, is_whole
from boxgalley.wordtree import is_flow_what, is_joint, is_piece, is_side, is_word, is_words, is_words_what

# Of all the kinds that a tree may be made of.
THINGS = (
    None, True, False, 0, 1, -1, 10 ** 30, "", "a", "left", "start", "words", (), [], ("a",), ["a"], (("a",),),
    [("a",)], ((),), ([],), (None,), (True, False), (0, 1), ("start", 0), (("start", 0), ("end", 0)), ("a", "b", "c"),
    ((), 50), ((), (), 50), [(), 50], [(), (), 50], (((), ()),), ((((),),),),
)


class Things(unittest.TestCase):
    def test_whole_numbers(self):
        for thing in (0, 1, -1, 10 ** 30):
            self.assertIs(is_whole(thing), True)
        for thing in (True, False, None, "1", (1,), [1]):
            self.assertIs(is_whole(thing), False)

    def test_bounds_count(self):
        self.assertEqual([is_between(k, 2, 4) for k in (1, 2, 3, 4, 5)], [False, True, True, True, False])
        self.assertIs(is_between(True, 0, 4), False)
        self.assertIs(is_between("2", 0, 4), False)

    def test_tuples(self):
        self.assertIs(is_tuple_of((1, 2), 2), True)
        for thing in ([1, 2], (1,), (1, 2, 3), "ab", None):
            self.assertIs(is_tuple_of(thing, 2), False)

    def test_lists(self):
        self.assertIs(is_list_of([1, 2], 2), True)
        for thing in ((1, 2), [1], [1, 2, 3], "ab", None, {1: 2, 3: 4}):
            self.assertIs(is_list_of(thing, 2), False)


class Pieces(unittest.TestCase):
    def test_every_ascii_sign(self):
        for number in range(300):
            sign = chr(number)
            due = "!" <= sign <= "~" and sign not in "%|"
            with self.subTest(number=number):
                self.assertIs(is_piece(sign), due)
                self.assertIs(is_piece("ab" + sign + "c"), due)
                self.assertIs(is_piece("ab" + sign), due)

    def test_lengths(self):
        for many in range(15):
            self.assertIs(is_piece("a" * many), 1 <= many <= 12)

    def test_what_is_no_text(self):
        for thing in (None, 1, True, ("a",), ["a"]):
            self.assertIs(is_piece(thing), False)

    def test_words(self):
        for many in range(9):
            self.assertIs(is_word(("a",) * many), 1 <= many <= 6)
        for thing in (["a"], "a", None, 1, (1,), ("a", ""), ("a", None), ("a", ("b",)), ("a b",)):
            self.assertIs(is_word(thing), False)

    def test_at_most_sixty_pieces_in_all(self):
        six = ("a",) * 6
        self.assertIs(is_words(()), True)
        self.assertIs(is_words((six,) * 10), True)
        self.assertIs(is_words((("a",),) * 60), True)
        self.assertIs(is_words((("a",),) * 61), False)
        self.assertIs(is_words((six,) * 10 + (("a",),)), False)

    def test_what_is_no_words(self):
        for thing in ([], [("a",)], "a", None, 0, ("a",), (["a"],), ((),), (("a",), ()), (("a",), None)):
            self.assertIs(is_words(thing), False)

    def test_joints(self):
        self.assertEqual([is_joint(k) for k in (-1, 0, 1, 50, 999, 1000)], [False, True, True, True, True, False])
        for thing in (True, False, None, "50", (50,)):
            self.assertIs(is_joint(thing), False)

    def test_sides(self):
        self.assertIs(is_side("left") and is_side("right"), True)
        for thing in ("", "Left", "start", None, 0, True, ("left",), ["left"]):
            self.assertIs(is_side(thing), False)


class WordsBoxes(unittest.TestCase):
    def test_words(self):
        for what in (((), 0), ((), 999), ((("a", "b"), ("c",)), 50)):
            self.assertIs(is_words_what(what, 0), True)
            self.assertIs(is_words_what(what, 1), False)

    def test_no_words(self):
        for what in (((), 1000), ((), -1), ((), True), ((), "50"), ((),), ((), 50, 50), [(), 50], (50, ()), ([], 50),
                     ((("%",),), 50), ((("a|b",),), 50), ((("a",),) * 61, 50), (("a",), 50), "ab"):
            self.assertIs(is_words_what(what, 0), False)

    def test_flows(self):
        for many in range(15):
            self.assertIs(is_flow_what((("left",) * many, (("a",),), 50), many), many <= 12)
        self.assertIs(is_flow_what((("left", "right"), (), 0), 2), True)
        self.assertIs(is_flow_what(((), (), 999), 0), True)

    def test_no_flows(self):
        for what in ((("left",), (), 50), (("left",) * 3, (), 50), (["left", "right"], (), 50),
                     (("left", "start"), (), 50), (("left", None), (), 50), (("left", "right"), [], 50),
                     (("left", "right"), (), 1000), (("left", "right"), (), True), (("left", "right"), ()),
                     (("left", "right"), (), 50, 0), [("left", "right"), (), 50], ((), ("left", "right"), 50),
                     (("left", "right"), (("%",),), 50)):
            self.assertIs(is_flow_what(what, 2), False)

    def test_whatever_is_handed_in(self):
        for thing in THINGS:
            for many in range(3):
                with self.subTest(thing=thing, many=many):
                    self.assertIs(is_words_what(thing, many), thing == ((), 50) and many == 0)
                    self.assertIs(is_flow_what(thing, many), thing == ((), (), 50) and many == 0)

    def test_nothing_is_changed(self):
        what = [["left"], [["a", "b"]], 50]
        for thing in (what, (["left"], (["a"],), 50), (("left",), [("a",)], 50)):
            before = copy.deepcopy(thing)
            is_flow_what(thing, 1)
            is_words_what(thing, 0)
            self.assertEqual(thing, before)


class OverBoxes(unittest.TestCase):
    def test_anchors(self):
        for word in ("start", "mid", "mid2", "end"):
            for by in (-10 ** 6, -1, 0, 1, 10 ** 6):
                self.assertIs(is_anchor((word, by)), True)

    def test_no_anchors(self):
        for thing in (("start", 10 ** 6 + 1), ("start", -10 ** 6 - 1), ("left", 0), ("", 0), ("start", True),
                      ("start", None), ("start", "0"), (0, "start"), ("start",), ("start", 0, 0), ["start", 0],
                      "start", None, 0, (None, 0), (("start",), 0), (["start"], 0)):
            self.assertIs(is_anchor(thing), False)

    def test_overs(self):
        pair = (("mid", -3), ("end", 4))
        for many in range(15):
            for pairs in range(15):
                due = 1 <= many <= 12 and pairs == many - 1
                self.assertIs(is_over_what((pair,) * pairs, many), due)

    def test_no_overs(self):
        good = (("mid", -3), ("end", 4))
        for bad in (("mid", -3), (("mid", -3),), (("mid", -3), ("left", 0)), (("no", -3), ("end", 4)),
                    good + (("end", 4),), [("mid", -3), ("end", 4)], None, 1, "ab"):
            self.assertIs(is_over_what((good, bad), 3), False)
            self.assertIs(is_over_what((bad, good), 3), False)
        self.assertIs(is_over_what([good], 2), False)
        self.assertIs(is_over_what(good, 2), False)
        self.assertIs(is_over_what(good, 3), False)

    def test_whatever_is_handed_in(self):
        for thing in THINGS:
            for many in range(4):
                with self.subTest(thing=thing, many=many):
                    self.assertIs(is_over_what(thing, many), thing == () and isinstance(thing, tuple) and many == 1)


if __name__ == "__main__":
    unittest.main()
