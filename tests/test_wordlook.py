"""The small checker of rows (2, 30)."""

import copy
import unittest

from boxgalley.words import set_rows, table_of
from boxgalley.wordlook import rows_shown
from search import all_settings, best_of, flat, searched_table, small_cases, table_shows

CASES = [case for case in small_cases(700) if all_settings(*case)]
GALLEY = (("box", "gal", "ley"), ("a",), ("pa", "ges"), ("on",))
THINGS = (
    None, True, False, 0, 1, -1, 10 ** 30, "", "a", "ab", (), [], {}, (0, 0, 1), [(0, 0, 1)], [[0, 0, 1]], [()],
    [None], [True], [0], ["abc"], [[]], [[0]], [[None]], [[0], [None]], [[[0]]], ((0, 0, 1),), 1.5, {"a": 1}, object(),
)


def end_of(triples):
    return triples[-1][0] if triples else 0


class Shown(unittest.TestCase):
    def test_what_set_rows_tells(self):
        told = set_rows(GALLEY, 50, [9, 4], 6)
        self.assertIs(rows_shown(GALLEY, 50, [9, 4], 6, *told), True)
        for case in CASES:
            self.assertIs(rows_shown(*case, *set_rows(*case)), True, case)

    def test_every_setting_by_the_table(self):
        count = {True: 0, False: 0}
        for case in CASES:
            settings = all_settings(*case)
            table = searched_table(*case)
            for triples, cost in settings:
                due = (cost, end_of(triples)) == best_of(settings)
                self.assertIs(rows_shown(*case, triples, table), due, (case, triples))
                count[due] += 1
        self.assertGreater(min(count.values()), 200, count)

    def test_a_dearer_one_and_one_with_a_later_end(self):
        words = (("a", "b", "c"),)
        table = table_of(words, 0, [2], 3)
        self.assertIs(rows_shown(words, 0, [2], 3, [(0, 0, 1), (1, 1, 3)], table), True)
        self.assertIs(rows_shown(words, 0, [2], 3, [(0, 0, 1), (1, 1, 2), (2, 2, 3)], table), False)
        table = table_of(words, 1, [4], 3)
        self.assertIs(rows_shown(words, 1, [4], 3, [(0, 0, 3)], table), True)
        self.assertIs(rows_shown(words, 1, [4], 3, [(0, 0, 2), (1, 2, 3)], table), False)


class OtherTables(unittest.TestCase):
    def check(self, case, triples, cost, table):
        due = table_shows(*case, table, cost, end_of(triples))
        self.assertIs(rows_shown(*case, triples, table), due, (case, triples, table))
        return due

    def test_each_entry_told_otherwise(self):
        count = {True: 0, False: 0}
        for case in CASES[:120]:
            triples, table = set_rows(*case)
            cost = best_of(all_settings(*case))[0]
            for row, entries in enumerate(table):
                for place, number in enumerate(entries):
                    for other in {None, 0, 1, 10 ** 9, (number or 0) + 1, max(0, (number or 0) - 1)} - {number}:
                        changed = copy.deepcopy(table)
                        changed[row][place] = other
                        count[self.check(case, triples, cost, changed)] += 1
        self.assertGreater(min(count.values()), 200, count)

    def test_all_entries_told_otherwise(self):
        count = {True: 0, False: 0}
        for case in CASES:
            table = searched_table(*case)
            for triples, cost in all_settings(*case)[:5]:
                for filled in (0, 1, cost, cost + 1, 10 ** 9):
                    every = [[filled for _ in entries] for entries in table]
                    holes = [[filled if number is None else number for number in entries] for entries in table]
                    for changed in (every, holes):
                        changed[0][0] = 0
                        count[self.check(case, triples, cost, changed)] += 1
        self.assertGreater(min(count.values()), 200, count)

    def test_a_number_where_the_last_place_is(self):
        words = (("ab",), ("cd",))
        triples, table = set_rows(words, 50, [2], 2)
        self.assertEqual(table, [[0, None, None], [None, 0, None], [None, None, None]])
        for row in range(3):
            for number in (0, 5):
                changed = copy.deepcopy(table)
                changed[row][2] = number
                self.assertIs(rows_shown(words, 50, [2], 2, triples, changed), True)

    def test_the_first_entry_is_nought(self):
        words = (("ab",), ("cd",))
        for first in (None, 1, -1, False, "0", 0.0):
            self.assertIs(rows_shown(words, 50, [5], 1, [(0, 0, 2)], [[first, None, None], [None, 9, None]]), False)
        self.assertIs(rows_shown(words, 50, [5], 1, [(0, 0, 2)], [[0, None, None], [None, 9, None]]), True)
        self.assertIs(rows_shown((), 50, [5], 1, [], [[None], [None]]), False)
        self.assertIs(rows_shown((), 50, [5], 1, [], [[1], [None]]), False)

    def test_a_number_no_greater_is_due_one_list_on(self):
        words = (("ab",), ("cd",))
        for number, due in ((9, True), (8, True), (0, True), (10, False), (None, False)):
            table = [[0, None, None], [None, number, None]]
            self.assertIs(rows_shown(words, 50, [5], 1, [(0, 0, 2)], table), due)

    def test_an_empty_row_is_looked_at(self):
        words = (("abc",),)
        for number, due in ((4, True), (5, False), (3, False), (None, False)):
            table = [[0, None], [number, None], [None, None]]
            self.assertIs(rows_shown(words, 50, [2, 3], 2, [(1, 0, 1)], table), due)

    def test_no_words(self):
        for table, due in (([[0], [None], [None]], True), ([[0], [4], [None]], True), ([[0], [None]], False),
                           ([[0], [None], [None], [None]], False), ([[0], [-1], [None]], False),
                           ([[0, None], [None, None], [None, None]], False), ([[], [], []], False)):
            self.assertIs(rows_shown((), 50, [3], 2, [], table), due)
        self.assertIs(rows_shown((), 50, [3], 2, [(0, 0, 0)], [[0], [None], [None]]), False)


class OtherTriples(unittest.TestCase):
    words = (("a",), ("bcd",), ("ef", "g"))
    widths = [1, 2, 3, 4]

    def shown(self, triples):
        return rows_shown(self.words, 0, self.widths, 5, triples, table_of(self.words, 0, self.widths, 5))

    def test_the_conditions_of_a_setting(self):
        self.assertIs(self.shown([(0, 0, 1), (2, 1, 2), (3, 2, 4)]), True)
        for triples in (
            [], [(0, 0, 1)], [(0, 0, 1), (2, 1, 2)], [(2, 1, 2), (3, 2, 4)], [(0, 0, 1), (3, 2, 4)],
            [(0, 0, 1), (2, 1, 2), (3, 2, 5)], [(0, 0, 1), (2, 1, 2), (5, 2, 4)], [(0, 0, 1), (2, 1, 2), (4, 2, 4)],
            [(0, 0, 1), (2, 1, 2), (2, 2, 4)], [(2, 0, 1), (0, 1, 2), (3, 2, 4)], [(-1, 0, 1), (2, 1, 2), (3, 2, 4)],
            [(0, 0, 1), (1, 1, 2), (3, 2, 4)], [(0, 0, 1), (2, 1, 2), (3, 2, 4), (4, 4, 4)],
            [(0, 0, 1), (1, 1, 1), (2, 1, 2), (3, 2, 4)], [(1, 0, 1), (2, 1, 2), (3, 2, 4)],
            [(0, 0, 1), (2, 1, 2), (3, 2, 4), (4, 2, 4)], [(0, 0, 2), (3, 2, 4)], [(3, 2, 4), (2, 1, 2), (0, 0, 1)],
        ):
            self.assertIs(self.shown(triples), False, triples)

    def test_where_the_table_has_nothing_against_them(self):
        words = (("a",), ("b",))
        table = [[0, None, None], [None, 0, None]]
        self.assertIs(rows_shown(words, 0, [1], 2, [(0, 0, 1), (1, 1, 2)], table + [[None] * 3]), True)
        for triples in ([(0, 0, 1), (1, 1, 2)], [(0, 0, 2)], [(0, 1, 2)], [(0, 0, 1), (0, 1, 2)], [(0, 0, 1)], []):
            self.assertIs(rows_shown(words, 0, [1], 1, triples, table), False, triples)

    def test_no_row_stays_empty_only_as_that_is_cheaper(self):
        words = (("ab", "cdef"),)
        table = table_of(words, 999, [3, 9], 2)
        self.assertEqual(table[1], [None, 999, None])
        self.assertIs(rows_shown(words, 999, [3, 9], 2, [(0, 0, 1), (1, 1, 2)], table), True)
        self.assertIs(rows_shown(words, 999, [3, 9], 2, [(1, 0, 2)], table), False)

    def test_empty_rows_and_joints_are_paid(self):
        words = (("abc", "d"), ("e",))
        triples, table = set_rows(words, 7, [2, 4, 1], 4)
        self.assertEqual(triples, [(1, 0, 2), (2, 2, 3)])
        self.assertEqual(table[2], [None, 4 + 7, 4, None])
        self.assertIs(rows_shown(words, 7, [2, 4, 1], 4, triples, table), True)
        for number in (3, 5):
            table[2][2] = number
            self.assertIs(rows_shown(words, 7, [2, 4, 1], 4, triples, table), False)

    def test_every_small_list_of_triples(self):
        words, joint, widths, many = (("a", "b"), ("c",)), 2, [0, 3, 2], 4
        table = searched_table(words, joint, widths, many)
        settings = all_settings(words, joint, widths, many)
        best = [triples for triples, cost in settings if (cost, end_of(triples)) == best_of(settings)]
        single = [(row, start, till) for row in range(-1, 5) for start in range(-1, 4) for till in range(-1, 5)]
        for first in single:
            self.assertIs(rows_shown(words, joint, widths, many, [first], table), [first] in best)
            for second in single[::3] + [triple for triples in best for triple in triples]:
                self.assertIs(rows_shown(words, joint, widths, many, [first, second], table), [first, second] in best)


class Whatever(unittest.TestCase):
    def test_things_as_triples_and_tables(self):
        for words, widths, many in (((), [3], 1), ((("ab",),), [3], 1), (GALLEY, [9, 4], 6)):
            triples, table = set_rows(words, 50, widths, many)
            for thing in THINGS:
                with self.subTest(words=words, thing=thing):
                    listed = isinstance(thing, list)
                    self.assertIs(rows_shown(words, 50, widths, many, thing, table), listed and thing == triples)
                    self.assertIs(rows_shown(words, 50, widths, many, triples, thing), listed and thing == table)
                    for other in THINGS:
                        self.assertIn(rows_shown(words, 50, widths, many, thing, other), (True, False))

    def test_things_within(self):
        triples, table = set_rows(GALLEY, 50, [9, 4], 6)
        for thing in THINGS:
            for place in range(len(triples)):
                changed = list(triples)
                changed[place] = thing
                self.assertIs(rows_shown(GALLEY, 50, [9, 4], 6, changed, table), False)
                for part in range(3):
                    triple = list(triples[place])
                    alike = isinstance(thing, int) and not isinstance(thing, bool) and thing == triple[part]
                    triple[part] = thing
                    changed[place] = tuple(triple)
                    self.assertIs(rows_shown(GALLEY, 50, [9, 4], 6, changed, table), alike)
            for row in range(len(table)):
                changed = copy.copy(table)
                changed[row] = thing
                self.assertIs(rows_shown(GALLEY, 50, [9, 4], 6, triples, changed), False)
                if isinstance(thing, int) and not isinstance(thing, bool) and thing >= 0 or thing is None:
                    continue
                for place in range(8):
                    changed[row] = list(table[row])
                    changed[row][place] = thing
                    self.assertIs(rows_shown(GALLEY, 50, [9, 4], 6, triples, changed), False)

    def test_other_kinds_and_lengths(self):
        triples, table = set_rows(GALLEY, 50, [9, 4], 6)
        for other in (tuple(triples), [list(triple) for triple in triples], [triple + (0,) for triple in triples],
                      [triple[:2] for triple in triples], dict(enumerate(triples)), triples + [None]):
            self.assertIs(rows_shown(GALLEY, 50, [9, 4], 6, other, table), False)
        for other in (tuple(table), [tuple(row) for row in table], table[:-1], table + [table[-1]],
                      [row[:-1] for row in table], [row + [None] for row in table], dict(enumerate(table)),
                      table[:-1] + [None], table[:-1] + [table[-1][:-1]]):
            self.assertIs(rows_shown(GALLEY, 50, [9, 4], 6, triples, other), False)

    def test_truths_are_no_numbers(self):
        words = (("ab",),)
        self.assertIs(rows_shown(words, 50, [3], 1, [(0, 0, 1)], [[0, None], [None, None]]), True)
        for triple in ((False, 0, 1), (0, False, 1), (0, 0, True)):
            self.assertIs(rows_shown(words, 50, [3], 1, [triple], [[0, None], [None, None]]), False)
        self.assertIs(rows_shown(words, 50, [3], 1, [(0, 0, 1)], [[False, None], [None, None]]), False)
        self.assertIs(rows_shown(words, 50, [3], 1, [(0, 0, 1)], [[0, None], [None, True]]), False)

    def test_nothing_handed_in_is_changed(self):
        for case in CASES[:100]:
            handed = copy.deepcopy(case + set_rows(*case))
            before = copy.deepcopy(handed)
            rows_shown(*handed)
            self.assertEqual(handed, before)

    def test_many_cases_are_words(self):
        self.assertGreater(len([case for case in CASES if len(flat(case[0])) >= 3]), 100)


if __name__ == "__main__":
    unittest.main()
