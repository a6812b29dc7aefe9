"""What flows ask for, their floats, and the rows that their words are set in (2, 12, 13, 16, 32 to 35)."""

import copy
import unittest

from boxgalley.flowbox import flow_high, flow_paper, flow_rows, flow_wide, laid_width, row_places
from boxgalley.flowlook import stood
from boxgalley.kinds import high_asked, paper_of, part_places, part_widths, wide_asked
from boxgalley.wordlook import rows_shown
from boxsearch import flow_asks, flow_cases, flow_told, words_by_search
from floatsearch import edges
from search import cost_of
from treesearch import flow, leaf, words

MOST = 10 ** 6
CASES = flow_cases(700)
TOLD = [flow_told(*case) for case in CASES]
SIXTY = tuple(("a",) * 6 for _ in range(10))


def one_float(wide, high, side="left", said=(), joint=50):
    """A flow of one part with these wishes, and the measures of the part."""
    return flow("f", [side], leaf("a"), said=said, joint=joint), {"a": (0, wide, wide)}, {"a": (0, high, high)}


def asked_high(box, width, wides, highs):
    return flow_high(flow_paper(box, width, wides, highs))


class Wide(unittest.TestCase):
    def test_nothing(self):
        self.assertEqual(flow_wide(flow("f", []), {}), (0, 0, MOST))

    def test_words_alone(self):
        said = (("to",), ("gal", "ley"), ("it",))
        self.assertEqual(flow_wide(flow("f", [], said=said), {}), (4, 12, MOST))

    def test_parts_alone(self):
        box = flow("f", ["left", "right", "left"], *map(leaf, "abc"))
        self.assertEqual(flow_wide(box, {"a": (2, 3, 9), "b": (5, 5, 5), "c": (0, 4, 4)}), (5, 12, MOST))
        self.assertEqual(flow_wide(box, {"a": (0, 0, 9), "b": (0, 0, 5), "c": (0, 0, 4)}), (0, 0, MOST))

    def test_parts_and_words(self):
        box = flow("f", ["left", "right"], leaf("a"), leaf("b"), said=(("to",), ("gal", "ley")))
        self.assertEqual(flow_wide(box, {"a": (3, 7, 9), "b": (0, 1, 5)}), (4, 17, MOST))
        self.assertEqual(flow_wide(box, {"a": (3, 7, 9), "b": (5, 6, 6)}), (5, 22, MOST))

    def test_numbers_beyond_its_most(self):
        box = flow("f", ["left", "right"], leaf("a"), leaf("b"))
        measures = {"a": (2 * MOST, 2 * MOST, 10 ** 9), "b": (0, MOST, MOST)}
        self.assertEqual(flow_wide(box, measures), (2 * MOST, 3 * MOST, MOST))

    def test_against_the_second_account(self):
        for box, _, wides, _ in CASES:
            self.assertEqual(flow_wide(box, wides), flow_asks(box, wides))
            self.assertEqual(wide_asked(box, wides), flow_asks(box, wides))


class Floats(unittest.TestCase):
    def standing(self, box, width, wides, highs):
        return flow_paper(box, width, wides, highs)[0]

    def test_by_their_wishes(self):
        box = flow("f", ["left", "right"], leaf("a"), leaf("b"))
        wides, highs = {"a": (1, 3, 9), "b": (0, 4, 4)}, {"a": (0, 2, 9), "b": (1, 5, 5)}
        self.assertEqual(self.standing(box, 10, wides, highs), [("a", 0, 0, 3, 2), ("b", 6, 0, 4, 5)])
        self.assertEqual(self.standing(box, 6, wides, highs), [("a", 0, 0, 3, 2), ("b", 2, 2, 4, 5)])

    def test_a_wish_wider_than_the_flow(self):
        for side in ("left", "right"):
            box, wides, highs = one_float(9, 2, side)
            self.assertEqual(self.standing(box, 9, wides, highs), [("a", 0, 0, 9, 2)])
            self.assertEqual(self.standing(box, 8, wides, highs), [("a", 0, 0, 8, 2)])
            self.assertEqual(self.standing(box, 1, wides, highs), [("a", 0, 0, 1, 2)])

    def test_a_wish_of_nothing(self):
        for side, x in (("left", 0), ("right", 4)):
            box, wides, highs = one_float(0, 0, side)
            self.assertEqual(self.standing(box, 5, wides, highs), [("a", x, 0, 1, 1)])
            self.assertEqual(flow_high(flow_paper(box, 5, wides, highs)), (1, 1, MOST))

    def test_a_flow_of_no_width(self):
        box, wides, highs = one_float(9, 2)
        self.assertEqual(self.standing(box, 0, wides, highs), [("a", 0, 0, 1, 2)])
        box, wides, highs = one_float(0, 0, "right")
        self.assertEqual(self.standing(box, 0, wides, highs), [("a", 0, 0, 1, 1)])

    def test_a_width_less_than_a_part_s_least(self):
        box = flow("f", ["right", "left"], leaf("a"), leaf("b"))
        wides, highs = {"a": (6, 9, 9), "b": (0, 2, 2)}, {"a": (0, 2, 2), "b": (0, 1, 1)}
        self.assertEqual(self.standing(box, 3, wides, highs), [("a", 0, 0, 6, 2), ("b", 0, 2, 2, 1)])
        self.assertEqual(self.standing(box, 7, wides, highs), [("a", 0, 0, 7, 2), ("b", 0, 2, 2, 1)])

    def test_a_width_less_than_the_longest_piece(self):
        box, wides, highs = one_float(2, 2, "right", said=(("abcd", "e"),))
        self.assertEqual(self.standing(box, 0, wides, highs), [("a", 3, 0, 2, 2)])

    def test_widths_are_not_those_of_its_own_bounds(self):
        box = flow("f", ["right"], leaf("a"), own=((8, 8), (0, 9), 0, 1, 0, 0))
        self.assertEqual(self.standing(box, 3, {"a": (0, 1, 1)}, {"a": (0, 1, 1)}), [("a", 2, 0, 1, 1)])

    def test_twelve_floats(self):
        names = "abcdefghijkl"
        box = flow("f", ["left", "right"] * 6, *map(leaf, names))
        measures = {name: (0, 3, 3) for name in names}
        told = flow_paper(box, 3, measures, measures)
        self.assertEqual(told[0], [(name, 0, 3 * number, 3, 3) for number, name in enumerate(names)])
        self.assertEqual(told[1][0], [])
        self.assertEqual(told[1][2], [(6, "", "b")])

    def test_great_numbers(self):
        box = flow("f", ["left", "right"], leaf("a"), leaf("b"), said=(("a",), ("b",)))
        wides = {"a": (0, MOST, MOST), "b": (0, 5, 5)}
        highs = {"a": (0, MOST, MOST), "b": (0, MOST, MOST)}
        self.assertEqual(self.standing(box, MOST, wides, highs), [("a", 0, 0, MOST, MOST),
                                                                  ("b", MOST - 5, MOST, 5, MOST)])
        self.assertEqual(asked_high(box, MOST, wides, highs), (2 * MOST + 1, 2 * MOST + 1, MOST))

    def test_row_by_row(self):
        narrow = 0
        for (box, width, wides, highs), (laid, floats, standing, _, _, _) in zip(CASES, TOLD):
            told = flow_paper(box, width, wides, highs)
            self.assertEqual(told[0], standing, (box, width, wides, highs))
            self.assertIs(stood(laid, floats, told[0], told[1]), True)
            self.assertEqual(part_widths(box, width, wides), {name: wide for name, _, wide, _ in floats})
            places = part_places(box, width, 3, wides, highs, told)
            self.assertEqual(places, {placed[0]: placed[1:] for placed in standing})
            narrow += laid > width
        self.assertGreater(narrow, 200)


class Words(unittest.TestCase):
    def test_nothing(self):
        for width in (0, 1, 9, MOST):
            self.assertEqual(flow_paper(flow("f", []), width, {}, {}), ([], [], [], [[0], [None]]))
            self.assertEqual(asked_high(flow("f", []), width, {}, {}), (0, 0, MOST))

    def test_words_alone_are_set_as_in_a_box_of_words(self):
        said = (("to",), ("gal", "ley"), ("it",))
        for width in (0, 3, 4, 7, 11, 12, 50):
            box, other = flow("f", [], said=said, joint=5), words("w", said, 5)
            paper = paper_of(other, width, {}, {})
            self.assertEqual(flow_paper(box, width, {}, {}), ([], []) + paper)
            self.assertEqual(asked_high(box, width, {}, {}), high_asked(other, {}, paper))

    def test_parts_alone(self):
        box, wides, highs = one_float(3, 4)
        self.assertEqual(flow_paper(box, 8, wides, highs), ([("a", 0, 0, 3, 4)], [[]], [], [[0]] + [[None]] * 5))
        self.assertEqual(asked_high(box, 8, wides, highs), (4, 4, MOST))

    def test_beside_a_float(self):
        said = tuple(("aa",) for _ in range(5))
        for side, begin in (("left", 5), ("right", 0)):
            box, wides, highs = one_float(5, 2, side, said)
            paper = flow_paper(box, 10, wides, highs)
            self.assertEqual(paper[2], [(0, 0, 2), (1, 2, 4), (2, 4, 5)])
            self.assertEqual(len(paper[3]), 2 + 5 + 1)
            self.assertEqual(flow_high(paper), (3, 3, MOST))
            floats = [("a", side, 5, 2)]
            self.assertEqual(row_places(10, floats, paper), [(0, begin), (1, begin), (2, 0)])

    def test_rows_too_narrow_stay_empty(self):
        box, wides, highs = one_float(8, 2, "left", (("abc",), ("d",)))
        paper = flow_paper(box, 10, wides, highs)
        self.assertEqual(paper[2], [(2, 0, 2)])
        self.assertEqual(flow_high(paper), (3, 3, MOST))
        self.assertEqual(row_places(10, [("a", "left", 8, 2)], paper), [(2, 0)])

    def test_rows_of_no_width(self):
        box, wides, highs = one_float(4, 3, "left", (("abc",),))
        paper = flow_paper(box, 4, wides, highs)
        self.assertEqual((paper[2], flow_high(paper)), ([(3, 0, 1)], (4, 4, MOST)))

    def test_the_height_is_that_of_what_is_lower(self):
        for high, due in ((1, 2), (2, 2), (3, 3), (60, 60), (61, 63)):
            box, wides, highs = one_float(2, high, "left", (("abc",), ("defg",)))
            self.assertEqual(asked_high(box, 7, wides, highs), (due, due, MOST), high)

    def test_the_widths_and_the_rows_that_words_are_set_in(self):
        said = (("ab", "c"), ("d",))
        for side, high, due in (("left", 2, ([5, 5, 7, 7, 7], 5)), ("right", 61, ([7], 3))):
            box = one_float(2, high, side, said)[0]
            standing = [("a", 0 if side == "left" else 5, 0, 2, high)]
            self.assertEqual(flow_rows(box, 7, [("a", side, 2, high)], standing), due)
        self.assertEqual(flow_rows(flow("f", []), 7, [], []), ([7], 1))
        self.assertEqual([laid_width(flow("f", [], said=said), width, {}) for width in (0, 3, 4)], [3, 3, 4])
        self.assertEqual(laid_width(flow("f", []), 0, {}), 1)

    def test_where_the_lowest_float_ends_at_sixty(self):
        box, wides, highs = one_float(2, 60, "right", SIXTY)
        paper = flow_paper(box, 7, wides, highs)
        self.assertEqual(len(paper[3]), 121)
        self.assertEqual(paper[2][0], (0, 0, 4))
        self.assertEqual(flow_high(paper), (60, 60, MOST))
        whole, wides, highs = one_float(7, 60, "right", SIXTY)
        lower = flow_paper(whole, 7, wides, highs)
        self.assertEqual(lower[2][0][:2], (60, 0))
        self.assertEqual(flow_high(lower)[0], lower[2][-1][0] + 1)

    def test_where_the_lowest_float_ends_beyond(self):
        box, wides, highs = one_float(2, 61, "right", SIXTY)
        paper = flow_paper(box, 7, wides, highs)
        alone = paper_of(words("w", SIXTY), 7, {}, {})
        self.assertEqual(paper, ([("a", 5, 0, 2, 61)], [[]]) + alone)
        rows = 61 + alone[0][-1][0] + 1
        self.assertEqual(flow_high(paper), (rows, rows, MOST))
        self.assertEqual(row_places(7, [("a", "right", 2, 61)], paper),
                         [(61 + triple[0], 0) for triple in alone[0]])

    def test_beyond_sixty_without_words(self):
        box, wides, highs = one_float(2, 61)
        paper = flow_paper(box, 7, wides, highs)
        self.assertEqual(paper, ([("a", 0, 0, 2, 61)], [[]], [], [[0], [None]]))
        self.assertEqual(flow_high(paper), (61, 61, MOST))
        self.assertEqual(row_places(7, [("a", "left", 2, 61)], paper), [])

    def test_the_lowest_float_is_not_always_the_last(self):
        box = flow("f", ["left", "right"], leaf("a"), leaf("b"), said=(("abc",),))
        wides, highs = {"a": (0, 2, 2), "b": (0, 1, 1)}, {"a": (0, 61, 61), "b": (0, 1, 1)}
        paper = flow_paper(box, 9, wides, highs)
        self.assertEqual((paper[2], flow_high(paper)), ([(0, 0, 1)], (62, 62, MOST)))

    def test_the_price_of_a_joint_matters(self):
        said = (("aaaa",), ("b", "ccc"), ("dddd",))
        for joint, first in ((0, (0, 0, 2)), (999, (0, 0, 1))):
            box, wides, highs = one_float(4, 2, "left", said, joint)
            self.assertEqual(flow_paper(box, 12, wides, highs)[2][0], first)

    def test_against_all_settings(self):
        beneath, beside = 0, 0
        for (box, width, wides, highs), (_, _, standing, widths, many, first) in zip(CASES, TOLD):
            _, said, joint = box[3]
            (cost, last), table = words_by_search(said, joint, widths, many)
            paper = flow_paper(box, width, wides, highs)
            self.assertEqual(paper[3], table, (box, width, wides, highs))
            self.assertIs(rows_shown(said, joint, widths, many, paper[2], paper[3]), True)
            end = max((placed[2] + placed[4] for placed in standing), default=0)
            rows = max(end, first + last + 1) if said else end
            self.assertEqual(flow_high(paper), (rows, rows, MOST), (box, width, wides, highs))
            taken = {triple[0] for triple in paper[2]}
            empty = sum(widths[min(row, len(widths) - 1)] ** 2 for row in range(last) if said and row not in taken)
            self.assertEqual(sum(cost_of(said, joint, widths, each) for each in paper[2][:-1]) + empty, cost)
            beneath += first > 0 and said != ()
            beside += first == 0 and 0 < last + 1 <= end and said != ()
        self.assertGreater(beneath, 40)
        self.assertGreater(beside, 50)

    def test_rows_begin_at_their_stretches(self):
        for (box, width, wides, highs), (laid, floats, standing, _, _, first) in zip(CASES, TOLD):
            paper = flow_paper(box, width, wides, highs)
            due = [(first + row, edges(laid, floats, standing, [first + row])[0]) for row, _, _ in paper[2]]
            self.assertEqual(row_places(laid, floats, paper), due)

    def test_asked_by_kind(self):
        for box, width, wides, highs in CASES[:200]:
            paper = paper_of(box, width, wides, highs)
            self.assertEqual(paper, flow_paper(box, width, wides, highs))
            self.assertEqual(high_asked(box, highs, paper), flow_high(paper))

    def test_handed_in_and_told(self):
        for box, width, wides, highs in CASES[:80]:
            handed = copy.deepcopy((box, wides, highs))
            before = copy.deepcopy(flow_paper(box, width, wides, highs))
            told = flow_paper(box, width, wides, highs)
            flow_high(told)
            part_places(box, width, 5, wides, highs, told).clear()
            part_widths(box, width, wides).clear()
            self.assertEqual(told, before)
            for some in told[1] + told[3] + list(told):
                some.append(7)
            self.assertEqual((box, wides, highs), handed)
            self.assertEqual(flow_paper(box, width, wides, highs), before)


if __name__ == "__main__":
    unittest.main()
