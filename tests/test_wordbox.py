"""What boxes of words ask for, and the rows that their words are set in (2, 12, 13, 16, 31)."""

import copy
import random
import unittest

from boxgalley.kinds import high_asked, paper_of, wide_asked
from boxgalley.wordbox import words_high, words_paper, words_rows, words_wide
from boxgalley.wordlook import rows_shown
from boxsearch import piece_lengths, some_said, words_asks, words_by_search
from search import cost_of, flat, text_between
from treesearch import words

MOST = 10 ** 6
SIXTY = tuple(("a",) * 6 for _ in range(10))


def some_boxes(many):
    """So many boxes with a width, always the same ones."""
    chance = random.Random(31)
    return [(words("top", some_said(chance, 5), chance.choice((0, 1, 9, 50, 999))), chance.randint(0, 16))
            for _ in range(many)]


CASES = some_boxes(800)


def asked_high(box, width):
    return words_high(words_paper(box, width))


class Wide(unittest.TestCase):
    def test_no_words(self):
        self.assertEqual(words_wide(words("w")), (0, 0, MOST))

    def test_one_piece(self):
        self.assertEqual(words_wide(words("w", (("a",),))), (1, 1, MOST))
        self.assertEqual(words_wide(words("w", (("abcdefghijkl",),))), (12, 12, MOST))

    def test_the_longest_piece_with_its_joint(self):
        self.assertEqual(words_wide(words("w", (("abc", "d"),))), (4, 4, MOST))
        self.assertEqual(words_wide(words("w", (("a", "bcd"),))), (3, 4, MOST))
        self.assertEqual(words_wide(words("w", (("abc", "bcd"), ("efg",)))), (4, 10, MOST))
        self.assertEqual(words_wide(words("w", (("efgh",), ("abc", "bcd")))), (4, 11, MOST))
        self.assertEqual(words_wide(words("w", (("abcdefghijkl", "a"),))), (13, 13, MOST))

    def test_all_in_one_row(self):
        self.assertEqual(words_wide(words("w", (("to",), ("gal", "ley"), ("it",)))), (4, 12, MOST))
        self.assertEqual(words_wide(words("w", (("a",), ("b",), ("c",)))), (1, 5, MOST))
        self.assertEqual(words_wide(words("w", SIXTY)), (2, 69, MOST))
        longest = tuple(("abcdefghijkl",) for _ in range(60))
        self.assertEqual(words_wide(words("w", longest)), (12, 60 * 12 + 59, MOST))

    def test_neither_joint_s_price_nor_own_numbers_matter(self):
        said = (("to",), ("gal", "ley"))
        for joint in (0, 999):
            box = words("w", said, joint, own=((7, 9), (1, 2), 3, 3, 3, 0))
            self.assertEqual(words_wide(box), (4, 9, MOST))

    def test_against_the_second_account(self):
        for box, _ in CASES:
            self.assertEqual(words_wide(box), words_asks(box[3][0]), box)
            self.assertEqual(wide_asked(box, {}), words_asks(box[3][0]), box)


class High(unittest.TestCase):
    def test_no_words(self):
        for width in (0, 1, 50, MOST):
            self.assertEqual(words_paper(words("w"), width), ([], [[0], [None]]))
            self.assertEqual(asked_high(words("w"), width), (0, 0, MOST))

    def test_one_piece(self):
        for width in (0, 1, 3, 4, MOST):
            self.assertEqual(words_paper(words("w", (("abc",),)), width), ([(0, 0, 1)], [[0, None], [None, None]]))
            self.assertEqual(asked_high(words("w", (("abc",),)), width), (1, 1, MOST))

    def test_all_in_one_row(self):
        box = words("w", (("to",), ("gal", "ley"), ("it",)))
        for width in (12, 13, 1000, MOST, 10 ** 9):
            self.assertEqual(words_paper(box, width)[0], [(0, 0, 4)])
            self.assertEqual(asked_high(box, width), (1, 1, MOST))

    def test_several_rows(self):
        box = words("w", (("to",), ("gal", "ley"), ("it",)), 5)
        self.assertEqual(words_paper(box, 7)[0], [(0, 0, 2), (1, 2, 4)])
        self.assertEqual(asked_high(box, 7), (2, 2, MOST))
        self.assertEqual(asked_high(box, 11), (2, 2, MOST))

    def test_a_width_less_than_the_longest_piece(self):
        box = words("w", (("ab", "c"), ("d",)))
        for width in (0, 1, 2, 3):
            self.assertEqual(words_paper(box, width), words_paper(box, 3))
        self.assertEqual(words_paper(box, 0)[0], [(0, 0, 2), (1, 2, 3)])
        self.assertEqual(asked_high(box, 0), (2, 2, MOST))
        self.assertNotEqual(words_paper(box, 4), words_paper(box, 3))

    def test_the_width_and_the_rows_that_words_are_set_in(self):
        self.assertEqual([words_rows(words("w"), width) for width in (0, 1, 2)], [([1], 1), ([1], 1), ([2], 1)])
        box = words("w", (("ab", "c"), ("d",)))
        self.assertEqual([words_rows(box, width) for width in (0, 3, 4)], [([3], 3), ([3], 3), ([4], 3)])

    def test_its_own_width_is_what_it_got_not_its_bounds(self):
        box = words("w", (("ab",), ("cd",)), own=((0, 2), (0, 1), 0, 1, 0, 0))
        self.assertEqual(words_paper(box, 5)[0], [(0, 0, 2)])

    def test_as_many_rows_as_pieces(self):
        self.assertEqual(len(words_paper(words("w", SIXTY), 0)[1]), 61)
        self.assertEqual(asked_high(words("w", tuple(("ab",) for _ in range(60))), 0), (60, 60, MOST))
        self.assertEqual(asked_high(words("w", tuple(("ab",) for _ in range(60))), 5), (30, 30, MOST))

    def test_the_price_of_a_joint_matters(self):
        said = (("aaaa",), ("b", "ccc"), ("dddd",))
        self.assertEqual(words_paper(words("w", said, 0), 8)[0][0], (0, 0, 2))
        self.assertEqual(words_paper(words("w", said, 999), 8)[0][0], (0, 0, 1))

    def test_against_all_settings(self):
        several = 0
        for box, width in CASES:
            said, joint = box[3]
            many, wide = len(flat(said)) or 1, max([width, 1] + piece_lengths(said))
            (cost, last), table = words_by_search(said, joint, [wide], many)
            triples, told = words_paper(box, width)
            self.assertEqual(told, table, (box, width))
            self.assertEqual(sum(cost_of(said, joint, [wide], triple) for triple in triples[:-1]), cost)
            rows = last + 1 if said else 0
            self.assertEqual(words_high((triples, told)), (rows, rows, MOST), (box, width))
            self.assertEqual([triple[0] for triple in triples], list(range(rows)))
            self.assertEqual([(triple[1], triple[2]) for triple in triples][:1], [(0, triples[0][2])] if said else [])
            self.assertTrue(all(len(text_between(said, *triple[1:])) <= wide for triple in triples))
            several += rows > 2
        self.assertGreater(several, 100)

    def test_papers_are_let_by(self):
        for box, width in CASES:
            said, joint = box[3]
            many, wide = len(flat(said)) or 1, max([width, 1] + piece_lengths(said))
            self.assertIs(rows_shown(said, joint, [wide], many, *words_paper(box, width)), True)

    def test_asked_by_kind(self):
        for box, width in CASES[:200]:
            paper = paper_of(box, width, {}, {})
            self.assertEqual(paper, words_paper(box, width))
            self.assertEqual(high_asked(box, {}, paper), words_high(paper))

    def test_handed_in_and_told(self):
        box = words("w", (("to",), ("gal", "ley"), ("it",)), 5)
        before = copy.deepcopy(words_paper(box, 7))
        told = words_paper(box, 7)
        told[0].clear()
        told[1][0].clear()
        told[1].pop()
        self.assertEqual(words_paper(box, 7), before)
        kept = copy.deepcopy(before)
        words_high(before)
        self.assertEqual(before, kept)


if __name__ == "__main__":
    unittest.main()
