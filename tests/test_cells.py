"""Places of a table's parts (2, 3, 21)."""

import itertools
import random
import unittest

from boxgalley.cells import put_cells, rows_taken
from treesearch import cells_of, places_by_search, rows_by_search


class Places(unittest.TestCase):
    def judged(self, columns, spans):
        told = put_cells(columns, spans)
        self.assertEqual(told, places_by_search(columns, spans), (columns, spans))
        taken = [cells_of(place, span) for place, span in zip(told, spans)]
        self.assertEqual(len(set().union(*taken)), sum(len(cells) for cells in taken))
        self.assertTrue(all(0 <= across < columns for cells in taken for _, across in cells))
        self.assertEqual(rows_taken(told, spans), rows_by_search(columns, spans))

    def test_no_parts(self):
        for columns in (1, 5, 12):
            self.assertEqual(put_cells(columns, []), [])
            self.assertEqual(rows_taken([], []), 0)

    def test_row_by_row(self):
        self.assertEqual(put_cells(3, [(1, 1)] * 5), [(0, 0), (0, 1), (0, 2), (1, 0), (1, 1)])
        self.assertEqual(put_cells(1, [(1, 1)] * 3), [(0, 0), (1, 0), (2, 0)])

    def test_several_columns(self):
        self.assertEqual(put_cells(3, [(2, 1), (1, 1), (3, 1), (2, 1)]), [(0, 0), (0, 2), (1, 0), (2, 0)])
        self.assertEqual(put_cells(12, [(12, 1), (12, 1)]), [(0, 0), (1, 0)])

    def test_several_rows(self):
        self.assertEqual(put_cells(2, [(1, 3), (1, 1), (1, 1), (2, 1)]), [(0, 0), (0, 1), (1, 1), (3, 0)])
        self.assertEqual(put_cells(3, [(1, 1), (1, 2), (1, 1), (1, 1), (1, 1)]),
                         [(0, 0), (0, 1), (0, 2), (1, 0), (1, 2)])
        self.assertEqual(put_cells(2, [(1, 12), (1, 12), (1, 1)]), [(0, 0), (0, 1), (12, 0)])

    def test_places_left_free_by_wider_ones(self):
        self.assertEqual(put_cells(3, [(2, 1), (2, 1), (1, 1), (1, 1), (1, 1)]),
                         [(0, 0), (1, 0), (0, 2), (1, 2), (2, 0)])
        self.assertEqual(put_cells(3, [(2, 2), (2, 1), (1, 3), (1, 1)]), [(0, 0), (2, 0), (0, 2), (3, 0)])
        self.assertEqual(put_cells(3, [(2, 1), (3, 1), (1, 2), (1, 1)]), [(0, 0), (1, 0), (2, 0), (0, 2)])

    def test_a_place_free_above_and_taken_beneath(self):
        self.assertEqual(put_cells(2, [(1, 1), (2, 1), (1, 2), (1, 1)]), [(0, 0), (1, 0), (2, 0), (0, 1)])

    def test_rows(self):
        self.assertEqual(rows_taken([(0, 0), (0, 1)], [(1, 5), (1, 1)]), 5)
        self.assertEqual(rows_taken([(0, 0), (1, 0)], [(2, 1), (1, 2)]), 3)

    def test_every_small_table(self):
        for columns in (1, 2, 3):
            sorts = [(across, down) for across in range(1, columns + 1) for down in (1, 2, 3)]
            for many in range(5 if columns < 3 else 4):
                for spans in itertools.product(sorts, repeat=many):
                    self.judged(columns, list(spans))

    def test_greater_tables(self):
        chance = random.Random(21)
        for _ in range(150):
            columns = chance.randint(1, 12)
            widest = chance.randint(1, columns)
            highest = chance.choice((1, 3, 12))
            self.judged(columns, [(chance.randint(1, widest), chance.randint(1, highest))
                                  for _ in range(chance.randint(0, 20))])

    def test_forty_great_parts(self):
        self.assertEqual(put_cells(12, [(7, 12)] * 40), [(12 * number, 0) for number in range(40)])
        self.assertEqual(put_cells(12, [(6, 12)] * 40), [(12 * (number // 2), 6 * (number % 2)) for number in range(40)])

    def test_somewhat_beyond(self):
        self.assertEqual(put_cells(14, [(13, 14), (1, 1)]), [(0, 0), (0, 13)])
        self.assertEqual(put_cells(2, [(1, 1), (3, 1), (1, 1)]), [(0, 0), (1, 0), (0, 1)])

    def test_handed_in_and_told(self):
        spans = [(2, 1), (2, 1), (1, 1)]
        told = put_cells(3, spans)
        before = list(told)
        self.assertEqual(spans, [(2, 1), (2, 1), (1, 1)])
        told.clear()
        again = put_cells(3, spans)
        self.assertEqual(again, before)
        spans.clear()
        self.assertEqual(again, before)


if __name__ == "__main__":
    unittest.main()
