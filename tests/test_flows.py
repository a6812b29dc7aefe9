"""Floats that stand, their papers, and the stretches that they leave (2, 3, 32, 33, 34, 44)."""

import copy
import unittest

from boxgalley.errors import TooWide
from boxgalley.flows import stand_floats, stretches, widths_of
from floatsearch import mirrored_floats, paper_shows, rows_of, small_floats, stand_by_rows, stretch_list

CASES = small_floats(1500, 12, 12)
STOOD = [(case, stand_by_rows(*case)) for case in CASES if not isinstance(stand_by_rows(*case), str)]


def cells_of(placed):
    return {(across, row) for across in range(placed[1], placed[1] + placed[3]) for row in rows_of(placed)}


class Standing(unittest.TestCase):
    def test_no_floats(self):
        for width in (0, 1, 10 ** 6):
            self.assertEqual(stand_floats(width, []), ([], []))

    def test_one_float(self):
        self.assertEqual(stand_floats(10, [("a", "left", 3, 2)]), ([("a", 0, 0, 3, 2)], [[]]))
        self.assertEqual(stand_floats(10, [("a", "right", 3, 2)]), ([("a", 7, 0, 3, 2)], [[]]))
        self.assertEqual(stand_floats(3, [("a", "right", 3, 2)]), ([("a", 0, 0, 3, 2)], [[]]))

    def test_both_sides_at_once(self):
        floats = [("a", "left", 3, 2), ("b", "right", 4, 5), ("c", "left", 2, 1), ("d", "right", 1, 1)]
        self.assertEqual(stand_floats(10, floats), (
            [("a", 0, 0, 3, 2), ("b", 6, 0, 4, 5), ("c", 3, 0, 2, 1), ("d", 5, 0, 1, 1)], [[], [], [], []]))

    def test_the_first_row_at_which_it_fits(self):
        floats = [("a", "left", 6, 3), ("b", "left", 5, 2)]
        self.assertEqual(stand_floats(10, floats), ([("a", 0, 0, 6, 3), ("b", 0, 3, 5, 2)], [[], [(3, "a", "")]]))
        self.assertEqual(stand_floats(11, floats), ([("a", 0, 0, 6, 3), ("b", 6, 0, 5, 2)], [[], []]))

    def test_each_looks_from_the_row_of_the_one_ahead(self):
        floats = [("a", "left", 6, 3), ("b", "right", 5, 2), ("c", "left", 1, 1)]
        self.assertEqual(stand_floats(10, floats)[0], [("a", 0, 0, 6, 3), ("b", 5, 3, 5, 2), ("c", 0, 3, 1, 1)])

    def test_a_float_is_passed_by_one_that_lasts_longer(self):
        floats = [("a", "left", 2, 9), ("b", "left", 3, 2), ("c", "right", 6, 4)]
        self.assertEqual(stand_floats(10, floats), (
            [("a", 0, 0, 2, 9), ("b", 2, 0, 3, 2), ("c", 4, 2, 6, 4)], [[], [], [(2, "b", "")]]))

    def test_the_edge_is_the_farthest_float_not_the_newest(self):
        floats = [("a", "left", 5, 2), ("b", "left", 4, 9), ("c", "left", 2, 1), ("d", "left", 6, 1)]
        self.assertEqual(stand_floats(9, floats)[0][1:], [("b", 5, 0, 4, 9), ("c", 0, 9, 2, 1), ("d", 2, 9, 6, 1)])

    def test_great_numbers(self):
        great = 10 ** 6
        floats = [("a", "left", great, great), ("b", "right", great, great), ("c", "right", 1, 1)]
        self.assertEqual(stand_floats(great, floats), (
            [("a", 0, 0, great, great), ("b", 0, great, great, great), ("c", great - 1, 2 * great, 1, 1)],
            [[], [(great, "a", "")], [(2 * great, "", "b")]]))

    def test_against_row_by_row(self):
        for (width, floats), standing in STOOD:
            self.assertEqual(stand_floats(width, floats)[0], standing, (width, floats))
        self.assertGreater(len([case for case, standing in STOOD if len(standing) > 6]), 200)

    def test_no_two_have_a_cell_in_common(self):
        for (width, floats), _ in STOOD:
            standing = stand_floats(width, floats)[0]
            cells = [cells_of(placed) for placed in standing]
            self.assertEqual(len(set().union(*cells)), sum(len(some) for some in cells), (width, floats))
            for placed in standing:
                self.assertTrue(0 <= placed[1] and placed[1] + placed[3] <= width and 0 <= placed[2])

    def test_mirrored_sides(self):
        for (width, floats), _ in STOOD:
            standing = stand_floats(width, floats)[0]
            other = stand_floats(width, mirrored_floats(floats))[0]
            self.assertEqual(other, [(name, width - x - w, y, w, h) for name, x, y, w, h in standing])
            self.assertEqual(stretches(width, mirrored_floats(floats), other),
                             [(row, width - x - wide, wide) for row, x, wide in stretches(width, floats, standing)])


class Refused(unittest.TestCase):
    def refused(self, width, floats):
        with self.assertRaises(TooWide) as caught:
            stand_floats(width, floats)
        return caught.exception.name

    def test_the_first_one_wider_than_the_room(self):
        self.assertEqual(self.refused(5, [("a", "left", 6, 1)]), "a")
        self.assertEqual(self.refused(0, [("a", "right", 1, 1)]), "a")
        self.assertEqual(self.refused(5, [("z", "left", 5, 1), ("b", "left", 6, 1), ("a", "right", 9, 1)]), "b")
        self.assertEqual(stand_floats(5, [("z", "left", 5, 1)])[0], [("z", 0, 0, 5, 1)])

    def test_against_row_by_row(self):
        refused = [(case, stand_by_rows(*case)) for case in CASES if isinstance(stand_by_rows(*case), str)]
        for case, name in refused:
            self.assertEqual(self.refused(*case), name)
        self.assertGreater(len(refused), 20)


class Papers(unittest.TestCase):
    def test_empty_where_a_float_stands_at_once(self):
        for (width, floats), standing in STOOD:
            papers = stand_floats(width, floats)[1]
            look = 0
            for placed, paper in zip(standing, papers):
                self.assertEqual(paper == [], placed[2] == look, (width, floats))
                look = placed[2]

    def test_a_paper_of_several_triples(self):
        floats = [("a", "left", 4, 2), ("b", "right", 4, 5), ("c", "left", 2, 3), ("d", "left", 9, 1)]
        self.assertEqual(stand_floats(10, floats), (
            [("a", 0, 0, 4, 2), ("b", 6, 0, 4, 5), ("c", 4, 0, 2, 3), ("d", 0, 5, 9, 1)],
            [[], [], [], [(3, "c", "b"), (5, "", "b")]]))

    def test_the_floats_at_the_edges_are_named(self):
        floats = [("a", "left", 2, 4), ("c", "left", 2, 2), ("e", "right", 7, 1), ("b", "left", 1, 1),
                  ("d", "left", 9, 1)]
        told = stand_floats(9, floats)
        self.assertEqual(told[0][2:], [("e", 2, 2, 7, 1), ("b", 2, 3, 1, 1), ("d", 0, 4, 9, 1)])
        self.assertEqual(told[1], [[], [], [(2, "c", "")], [(3, "a", "e")], [(4, "b", "")]])

    def test_tills_rise_and_each_stretch_is_blocked(self):
        several = 0
        for (width, floats), standing in STOOD:
            papers = stand_floats(width, floats)[1]
            self.assertEqual(len(papers), len(floats))
            for number, paper in enumerate(papers):
                self.assertIs(type(paper), list)
                tills = [till for till, _, _ in paper]
                self.assertEqual(tills, sorted(set(tills)))
                self.assertTrue(paper_shows(width, floats, standing, number, paper), (width, floats, number, paper))
                several += len(paper) > 1
        self.assertGreater(several, 100)


class Stretches(unittest.TestCase):
    def test_no_floats(self):
        self.assertEqual(stretches(7, [], []), [(0, 0, 7)])
        self.assertEqual(stretches(0, [], []), [(0, 0, 0)])

    def test_of_floats(self):
        floats = [("a", "left", 3, 2), ("b", "right", 4, 5)]
        self.assertEqual(stretches(10, floats, stand_floats(10, floats)[0]), [(0, 3, 3), (2, 0, 6), (5, 0, 10)])

    def test_no_width_left(self):
        floats = [("a", "left", 6, 2), ("b", "right", 4, 1)]
        self.assertEqual(stretches(10, floats, stand_floats(10, floats)[0]), [(0, 6, 0), (1, 6, 4), (2, 0, 10)])

    def test_neighbours_that_do_not_differ_are_one(self):
        floats = [("a", "left", 6, 2), ("b", "left", 6, 3)]
        self.assertEqual(stretches(10, floats, stand_floats(10, floats)[0]), [(0, 6, 4), (5, 0, 10)])
        floats = [("a", "left", 5, 4), ("b", "right", 2, 4), ("c", "left", 3, 2), ("d", "right", 2, 9)]
        self.assertEqual(stretches(10, floats, stand_floats(10, floats)[0]),
                         [(0, 8, 0), (2, 5, 1), (4, 0, 6), (11, 0, 10)])

    def test_a_float_that_hides_no_edge(self):
        floats = [("a", "left", 6, 9), ("b", "right", 4, 3), ("c", "right", 3, 6), ("d", "right", 1, 1)]
        standing = stand_floats(10, floats)[0]
        self.assertEqual(standing[2:], [("c", 7, 3, 3, 6), ("d", 6, 3, 1, 1)])
        self.assertEqual(stretches(10, floats, standing), [(0, 6, 0), (4, 6, 1), (9, 0, 10)])

    def test_against_row_by_row(self):
        for (width, floats), standing in STOOD:
            told = stretches(width, floats, standing)
            rows = stretch_list(width, floats, standing)
            due = [(row, *pair) for row, pair in enumerate(rows) if row == 0 or pair != rows[row - 1]]
            self.assertEqual(told, due, (width, floats))
            self.assertEqual((told[0][0], told[-1][1:]), (0, (0, width)))


class Widths(unittest.TestCase):
    TOLD = [(0, 3, 3), (2, 0, 6), (5, 0, 10)]

    def test_no_rows(self):
        self.assertEqual(widths_of(self.TOLD, 0), [])
        self.assertEqual(widths_of([(0, 0, 5)], 0), [])

    def test_rows_within_and_beyond(self):
        all_rows = [3, 3, 6, 6, 6, 10, 10, 10, 10]
        for many in range(10):
            self.assertEqual(widths_of(self.TOLD, many), all_rows[:many])
        self.assertEqual(widths_of([(0, 0, 5)], 3), [5, 5, 5])

    def test_stretches_that_are_many_rows_high(self):
        told = [(0, 3, 3), (10 ** 9, 0, 6)]
        self.assertEqual(widths_of(told, 4), [3] * 4)

    def test_against_row_by_row(self):
        for (width, floats), standing in STOOD:
            told = stretches(width, floats, standing)
            rows = [wide for _, wide in stretch_list(width, floats, standing)]
            for many in {0, 1, len(rows) // 2, len(rows) - 1, len(rows), len(rows) + 3}:
                self.assertEqual(widths_of(told, many), (rows + [width] * 3)[:many])


class HandedInAndTold(unittest.TestCase):
    def test_nothing_handed_in_is_changed(self):
        for (width, floats), standing in STOOD[:300]:
            handed = copy.deepcopy((floats, standing))
            stand_floats(width, handed[0])
            told = stretches(width, *handed)
            before = copy.deepcopy(told)
            widths_of(told, 9)
            self.assertEqual((handed, told), ((floats, standing), before))

    def test_what_is_told_may_be_changed(self):
        for (width, floats), _ in STOOD[:300]:
            standing, papers = stand_floats(width, floats)
            told = stretches(width, floats, standing)
            widths = widths_of(told, 9)
            before = copy.deepcopy((floats, standing, papers, told, widths))
            widths.clear()
            self.assertEqual(widths_of(told, 9), before[4])
            told.clear()
            self.assertEqual(stretches(width, floats, standing), before[3])
            standing.clear()
            for paper in papers:
                paper.append("x")
            papers.clear()
            self.assertEqual(floats, before[0])
            self.assertEqual(stand_floats(width, floats), before[1:3])

    def test_no_two_papers_are_one(self):
        floats = [(name, "left", 1, 1) for name in "abcd"]
        self.assertEqual(len({id(paper) for paper in stand_floats(9, floats)[1]}), 4)

    def test_nothing_is_refused_somewhat_beyond(self):
        floats = [(chr(97 + number), "left", 1, 1) for number in range(14)]
        self.assertEqual([placed[1] for placed in stand_floats(14, floats)[0]], list(range(14)))
        flat = [("a", "left", 5, 2), ("b", "left", 0, 0), ("c", "right", 5, 0)]
        self.assertEqual(stand_floats(5, flat)[0], [("a", 0, 0, 5, 2), ("b", 0, 0, 0, 0), ("c", 0, 0, 5, 0)])


if __name__ == "__main__":
    unittest.main()
