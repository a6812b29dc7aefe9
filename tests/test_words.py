"""Words set in rows (2, 27, 28, 29, 30)."""

import copy
import unittest

from boxgalley.errors import NoRows, TooWide
from boxgalley.words import row_cost, set_rows, table_of, text_of
from search import (all_settings, best_of, cost_of, flat, joint_at, searched_table, small_cases, text_between,
                    width_of)

GALLEY = (("box", "gal", "ley"), ("a",), ("pa", "ges"), ("on",))
CASES = small_cases(600)


def refusal_of(words, widths, many):
    """The refusal that is due, by a search: ("wide", piece), ("rows",) or None."""
    for place, (_, _, piece) in enumerate(flat(words)):
        if len(text_between(words, place, place + 1)) > max(widths):
            return ("wide", piece)
    return None if all_settings(words, 0, widths, many) else ("rows",)


class Texts(unittest.TestCase):
    def test_one_piece(self):
        self.assertEqual(text_of(GALLEY, 0, 1), "box-")
        self.assertEqual(text_of(GALLEY, 1, 2), "gal-")
        self.assertEqual(text_of(GALLEY, 2, 3), "ley")
        self.assertEqual(text_of(GALLEY, 3, 4), "a")
        self.assertEqual(text_of((("x",),), 0, 1), "x")

    def test_within_a_word(self):
        self.assertEqual(text_of(GALLEY, 0, 2), "boxgal-")
        self.assertEqual(text_of(GALLEY, 1, 3), "galley")
        self.assertEqual(text_of(GALLEY, 0, 3), "boxgalley")

    def test_over_several_words(self):
        self.assertEqual(text_of(GALLEY, 2, 4), "ley a")
        self.assertEqual(text_of(GALLEY, 2, 5), "ley a pa-")
        self.assertEqual(text_of(GALLEY, 1, 6), "galley a pages")
        self.assertEqual(text_of(GALLEY, 4, 7), "pages on")

    def test_all_pieces(self):
        self.assertEqual(text_of(GALLEY, 0, 7), "boxgalley a pages on")

    def test_a_piece_may_end_in_its_own_dash(self):
        self.assertEqual(text_of((("a-", "-"), ("-",)), 0, 1), "a--")
        self.assertEqual(text_of((("a-", "-"), ("-",)), 0, 3), "a-- -")

    def test_any_two_places(self):
        for words in [GALLEY] + [case[0] for case in CASES]:
            for till in range(len(flat(words)) + 1):
                for start in range(till):
                    self.assertEqual(text_of(words, start, till), text_between(words, start, till))


class Costs(unittest.TestCase):
    def test_the_square_of_what_lacks(self):
        self.assertEqual(row_cost(GALLEY, 50, [10], (0, 0, 3)), 1)
        self.assertEqual(row_cost(GALLEY, 50, [9], (0, 0, 3)), 0)
        self.assertEqual(row_cost(GALLEY, 50, [12], (0, 2, 4)), 49)
        self.assertEqual(row_cost(GALLEY, 50, [10 ** 6], (0, 3, 4)), 999999 ** 2)

    def test_also_where_the_text_is_longer(self):
        self.assertEqual(row_cost(GALLEY, 50, [6], (0, 0, 3)), 9)
        self.assertEqual(row_cost(GALLEY, 50, [0, 1], (0, 0, 3)), 81)

    def test_the_price_of_a_joint(self):
        self.assertEqual(row_cost(GALLEY, 50, [7], (0, 0, 2)), 50)
        self.assertEqual(row_cost(GALLEY, 999, [10], (0, 0, 2)), 9 + 999)
        self.assertEqual(row_cost(GALLEY, 0, [10], (0, 0, 2)), 9)
        self.assertEqual(row_cost(GALLEY, 7, [5], (0, 0, 2)), 4 + 7)

    def test_the_last_place_as_if_not_the_last(self):
        self.assertEqual(row_cost(GALLEY, 50, [30], (0, 0, 7)), 100)

    def test_the_width_of_its_own_row(self):
        widths = [3, 0, 5]
        due = [0, 9, 4, 4, 4]
        self.assertEqual([row_cost(GALLEY, 1, widths, (row, 2, 3)) for row in (0, 1, 2, 3, 119)], due)

    def test_any_triple(self):
        for words, joint, widths, many in CASES:
            for till in range(len(flat(words)) + 1):
                for triple in [(row, start, till) for row in range(many + 1) for start in range(till)]:
                    self.assertEqual(row_cost(words, joint, widths, triple), cost_of(words, joint, widths, triple))


class Tables(unittest.TestCase):
    def test_a_table(self):
        words = (("ab", "c"), ("d",))
        self.assertEqual(table_of(words, 10, [4], 3), [
            [0, None, None, None],
            [None, 11, 1, None],
            [None, None, 20, None],
            [None, None, None, None],
        ])

    def test_an_empty_row_where_the_next_piece_alone_is_longer(self):
        words = (("ab", "c"), ("d",))
        self.assertEqual(table_of(words, 10, [2, 3], 2), [
            [0, None, None, None],
            [4, None, None, None],
            [None, 14, 4, None],
        ])
        self.assertEqual(table_of((("abc",),), 10, [2, 3], 2), [[0, None], [4, None], [None, None]])

    def test_no_empty_row_where_the_next_piece_just_fits(self):
        self.assertEqual(table_of((("ab", "c"),), 10, [3], 2), [[0, None, None], [None, 10, None], [None, None, None]])
        self.assertEqual(table_of((("abc",), ("c",)), 10, [3], 2), [[0, None, None], [None, 0, None], [None] * 3])

    def test_no_words(self):
        for many in (1, 2, 120):
            self.assertEqual(table_of((), 50, [5], many), [[0]] + [[None]] * many)
            self.assertEqual(table_of((), 50, [0, 1], many), [[0]] + [[None]] * many)

    def test_its_form(self):
        for many in (1, 2, 120):
            table = table_of(GALLEY, 50, [4, 0, 9], many)
            self.assertEqual([len(row) for row in table], [8] * (many + 1))
            self.assertEqual(table[0], [0] + [None] * 7)
            self.assertEqual([row[7] for row in table], [None] * (many + 1))

    def test_a_table_refuses_nothing(self):
        self.assertEqual(table_of((("abcd",),), 50, [2], 2), [[0, None], [4, None], [8, None]])

    def test_against_a_search(self):
        for case in CASES:
            self.assertEqual(table_of(*case), searched_table(*case), case)


class Rows(unittest.TestCase):
    def test_one_row(self):
        self.assertEqual(set_rows(GALLEY, 50, [20], 1), ([(0, 0, 7)], [[0] + [None] * 7, [None] + [
            16 ** 2 + 50, 13 ** 2 + 50, 11 ** 2, 9 ** 2, 5 ** 2 + 50, 3 ** 2, None]]))

    def test_the_last_row_is_free(self):
        self.assertEqual(set_rows((("ab",), ("c",), ("defg",)), 50, [4], 3)[0], [(0, 0, 2), (1, 2, 3)])

    def test_the_price_of_a_joint_counts(self):
        words = (("to",), ("gal", "ley"), ("it",))
        self.assertEqual(set_rows(words, 5, [7], 4)[0], [(0, 0, 2), (1, 2, 4)])
        self.assertEqual(set_rows(words, 30, [9], 4)[0], [(0, 0, 3), (1, 3, 4)])
        self.assertEqual(set_rows((("ab",), ("cd", "ef")), 3, [6], 3)[0], [(0, 0, 2), (1, 2, 3)])
        self.assertEqual(set_rows((("ab",), ("cd", "ef")), 20, [6], 3)[0], [(0, 0, 1), (1, 1, 3)])

    def test_empty_rows(self):
        self.assertEqual(set_rows((("ab",), ("c",)), 50, [0, 1, 2], 4)[0], [(2, 0, 1), (3, 1, 2)])
        self.assertEqual(set_rows((("abc",),), 50, [0, 0, 2, 3], 4)[0], [(3, 0, 1)])
        self.assertEqual(set_rows((("a",), ("bcd",)), 50, [1, 2, 0, 3], 4)[0], [(0, 0, 1), (3, 1, 2)])

    def test_of_the_same_cost_the_least_last_row(self):
        words = (("a", "b", "c"),)
        settings = all_settings(words, 0, [2, 2, 2], 3)
        self.assertEqual([cost for _, cost in settings], [0, 0])
        self.assertEqual(sorted(triples[-1][0] for triples, _ in settings), [1, 2])
        self.assertEqual(set_rows(words, 0, [2, 2, 2], 3)[0], [(0, 0, 1), (1, 1, 3)])

    def test_no_words(self):
        self.assertEqual(set_rows((), 50, [1], 1), ([], [[0], [None]]))
        self.assertEqual(set_rows((), 50, [0, 3], 3), ([], [[0], [None], [None], [None]]))

    def test_against_a_search(self):
        seen = {"set": 0, "wide": 0, "rows": 0, "empty": 0, "joint": 0}
        for case in CASES:
            words, joint, widths, many = case
            refusal = refusal_of(words, widths, many)
            if refusal is not None:
                seen[refusal[0]] += 1
                with self.assertRaises(TooWide if refusal[0] == "wide" else NoRows) as caught:
                    set_rows(*case)
                if refusal[0] == "wide":
                    self.assertEqual(caught.exception.name, refusal[1])
                continue
            triples, table = set_rows(*case)
            costs = {tuple(setting): cost for setting, cost in all_settings(*case)}
            self.assertIn(tuple(triples), costs, case)
            end = triples[-1][0] if triples else 0
            self.assertEqual((costs[tuple(triples)], end), best_of(all_settings(*case)), case)
            self.assertEqual(table, table_of(*case), case)
            seen["set"] += 1
            seen["empty"] += end >= len(triples) > 0
            seen["joint"] += any(joint_at(words, till) for _, _, till in triples)
        self.assertGreater(min(seen.values()), 20, seen)

    def test_what_is_told_are_a_pair_of_lists_of_tuples_and_lists(self):
        told = set_rows(GALLEY, 50, [9, 4], 6)
        self.assertIs(type(told), tuple)
        self.assertEqual([type(thing) for thing in told], [list, list])
        self.assertEqual({type(triple) for triple in told[0]}, {tuple})
        self.assertEqual({type(row) for row in told[1]}, {list})
        numbers = [number for triple in told[0] for number in triple]
        self.assertEqual({type(number) for number in numbers}, {int})
        self.assertEqual({type(number) for row in told[1] for number in row}, {int, type(None)})

    def test_the_greatest_words(self):
        words = (tuple("abcdef"),) * 10
        for widths in ([10 ** 6], [0] * 60 + [9, 4], [3]):
            triples, table = set_rows(words, 999, widths, 120)
            self.assertEqual((len(table), len(table[0]), triples[-1][2]), (121, 61, 60))
            for row, start, till in triples:
                self.assertLessEqual(len(text_between(words, start, till)), width_of(widths, row))


class Refusals(unittest.TestCase):
    def wide(self, words, widths, many):
        with self.assertRaises(TooWide) as caught:
            set_rows(words, 50, widths, many)
        return caught.exception.name

    def test_too_wide_names_the_first_piece(self):
        self.assertEqual(self.wide((("a",), ("bcd",), ("efgh",)), [2], 9), "bcd")
        self.assertEqual(self.wide((("abcd",),), [1, 3, 2], 9), "abcd")

    def test_the_dash_counts(self):
        self.assertEqual(self.wide((("a",), ("bcd", "e")), [3], 9), "bcd")
        self.assertEqual(set_rows((("a",), ("e", "bcd")), 50, [3], 9)[0], [(0, 0, 1), (1, 1, 2), (2, 2, 3)])
        self.assertEqual(set_rows((("bcd", "e"),), 50, [4], 1)[0], [(0, 0, 2)])

    def test_all_widths_of_the_list_count(self):
        with self.assertRaises(NoRows):
            set_rows((("abc",),), 50, [1, 1, 3, 2], 2)
        self.assertEqual(set_rows((("abc",),), 50, [1, 1, 3, 2], 3)[0], [(2, 0, 1)])

    def test_too_wide_goes_ahead_of_no_rows(self):
        self.assertEqual(self.wide((("ab",),) * 5 + (("cde",),), [2], 1), "cde")

    def test_no_rows(self):
        words = (("ab",), ("cd",), ("ef",))
        for many in (1, 2):
            with self.assertRaises(NoRows):
                set_rows(words, 50, [2], many)
        self.assertEqual(set_rows(words, 50, [2], 3)[0], [(0, 0, 1), (1, 1, 2), (2, 2, 3)])
        with self.assertRaises(NoRows):
            set_rows((("abc",),), 50, [3, 2], 0)
        with self.assertRaises(NoRows):
            set_rows((("a",), ("bcd",)), 50, [3, 1], 120)

    def test_numbers_somewhat_beyond_their_bounds(self):
        self.assertEqual(set_rows((), 50, [1], 0), ([], [[0]]))
        self.assertEqual(set_rows((("a" * 13, "b"),), 1000, [14], 121)[0], [(0, 0, 2)])
        self.assertEqual(set_rows((("a" * 13, "bc"),), 1000, [14], 121)[1][1], [None, 1000, None])
        self.assertEqual(set_rows((("a",) * 7,) * 9, 50, [10 ** 6], 1)[0], [(0, 0, 63)])


class HandedInAndTold(unittest.TestCase):
    def test_nothing_handed_in_is_changed(self):
        for case in CASES[:200]:
            handed = copy.deepcopy(case)
            table_of(*handed)
            try:
                set_rows(*handed)
            except (TooWide, NoRows):
                pass
            if flat(handed[0]):
                row_cost(handed[0], handed[1], handed[2], (1, 0, 1))
                text_of(handed[0], 0, 1)
            self.assertEqual(handed, case)

    def test_what_is_told_is_the_askers_own(self):
        widths = [9, 4]
        table = table_of(GALLEY, 50, widths, 6)
        told = set_rows(GALLEY, 50, widths, 6)
        before = copy.deepcopy((table, told))
        again = (table_of(GALLEY, 50, widths, 6), set_rows(GALLEY, 50, widths, 6))
        self.assertEqual(again, before)
        widths[0] = 1
        widths.append(3)
        self.assertEqual((table, told), before)
        table[0][0] = 7
        table.append(8)
        told[0].clear()
        for row in told[1]:
            row.clear()
        self.assertEqual(again, before)
        self.assertEqual((table_of(GALLEY, 50, [9, 4], 6), set_rows(GALLEY, 50, [9, 4], 6)), before)

    def test_no_two_lists_of_a_table_are_one(self):
        for words in ((), GALLEY):
            table = table_of(words, 50, [5], 5)
            self.assertEqual(len({id(row) for row in table}), 6)


if __name__ == "__main__":
    unittest.main()
