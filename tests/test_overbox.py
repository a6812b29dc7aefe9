"""What overs ask for, and the sizes and places of their parts (2, 12, 13, 16, 36, 37)."""

import copy
import unittest

from boxgalley.kinds import high_asked, paper_of, part_places, part_widths, wide_asked
from boxgalley.overbox import over_asked, over_laid, over_sizes
from boxsearch import over_cases
from treesearch import leaf, over

CASES = over_cases(500)
START = ("start", 0)
WORDS = ("start", "mid", "mid2", "end")


def place_in(room, size, anchor):
    """By trying all places: the one nearest to where the anchor would have it."""
    word, by = anchor
    spare = room - size
    ahead = {"start": 0, "end": spare, "mid": spare // 2, "mid2": (spare + 1) // 2}[word]
    return min(range(spare + 1), key=lambda place: abs(place - ahead - by))


def laid_by_words(box, width, height, wides, highs):
    told = [(box[4][0][1], 0, 0, width, height)]
    for part, (across, down) in zip(box[4][1:], box[3]):
        wide, high = min(wides[part[1]][1], width), min(highs[part[1]][1], height)
        told.append((part[1], place_in(width, wide, across), place_in(height, high, down), wide, high))
    return told


def all_told(box, width, height, wides, highs):
    return (over_laid(box, width, height, wides, highs), over_sizes(box, width, wides),
            part_places(box, width, height, wides, highs, None), part_widths(box, width, wides))


class Asked(unittest.TestCase):
    def test_one_part(self):
        box = over("top", [], leaf("a"))
        self.assertEqual(over_asked(box, {"a": (1, 2, 3)}), (1, 2, 3))
        self.assertEqual(over_asked(box, {"a": (0, 10 ** 9, 10 ** 9)}), (0, 10 ** 9, 10 ** 9))

    def test_the_first_part_alone_is_asked(self):
        box = over("top", [(START, START)] * 2, leaf("z"), leaf("a"), leaf("b"))
        measures = {"a": (50, 60, 70), "z": (1, 2, 3), "b": (0, 0, 0)}
        self.assertEqual(over_asked(box, measures), (1, 2, 3))

    def test_by_kind_and_either_way(self):
        for box, _, _, wides, highs in CASES:
            self.assertEqual(wide_asked(box, wides), wides[box[4][0][1]])
            self.assertEqual(high_asked(box, highs, None), highs[box[4][0][1]])

    def test_overs_have_no_paper(self):
        for box, width, _, wides, highs in CASES[:50]:
            self.assertIsNone(paper_of(box, width, wides, highs))


class Sizes(unittest.TestCase):
    def test_the_first_part_is_as_great_as_the_over(self):
        box = over("top", [], leaf("a"))
        for size in (0, 1, 5, 10 ** 6):
            self.assertEqual(over_sizes(box, size, {"a": (2, 3, 4)}), {"a": size})

    def test_others_by_their_wishes(self):
        box = over("top", [(START, START)] * 4, *map(leaf, "abcde"))
        measures = {"a": (0, 0, 0), "b": (3, 4, 9), "c": (0, 5, 5), "d": (6, 6, 7), "e": (0, 0, 9)}
        self.assertEqual(over_sizes(box, 5, measures), {"a": 5, "b": 4, "c": 5, "d": 5, "e": 0})
        self.assertEqual(over_sizes(box, 0, measures), {name: 0 for name in "abcde"})

    def test_widths_by_kind(self):
        for box, width, height, wides, highs in CASES:
            due = laid_by_words(box, width, height, wides, highs)
            self.assertEqual(part_widths(box, width, wides), {name: wide for name, _, _, wide, _ in due})
            self.assertEqual(over_sizes(box, height, highs), {name: high for name, _, _, _, high in due})


class Places(unittest.TestCase):
    def test_one_part(self):
        box = over("top", [], leaf("a"))
        self.assertEqual(over_laid(box, 7, 4, {"a": (0, 1, 1)}, {"a": (9, 9, 9)}), [("a", 0, 0, 7, 4)])

    def test_parts_greater_than_the_over(self):
        for word in WORDS:
            box = over("top", [((word, 3), (word, -3))], leaf("b"), leaf("a"))
            measures = {"a": (0, 9, 9), "b": (0, 0, 0)}
            self.assertEqual(over_laid(box, 6, 5, measures, measures), [("b", 0, 0, 6, 5), ("a", 0, 0, 6, 5)])

    def test_each_anchor_either_way(self):
        for across, x in zip(WORDS, (0, 2, 3, 5)):
            for down, y in zip(WORDS, (0, 1, 2, 3)):
                box = over("top", [((across, 0), (down, 0))], leaf("a"), leaf("b"))
                wides, highs = {"a": (0, 0, 0), "b": (0, 4, 4)}, {"a": (0, 0, 0), "b": (0, 2, 9)}
                self.assertEqual(over_laid(box, 9, 5, wides, highs), [("a", 0, 0, 9, 5), ("b", x, y, 4, 2)])

    def test_anchors_with_bys(self):
        box = over("top", [(("start", 2), ("end", -1)), (("end", -100), ("start", 100)), (("mid", 1), ("mid2", -1))],
                   *map(leaf, "zyxw"))
        measures = {name: (0, 3, 3) for name in "zyxw"}
        self.assertEqual(over_laid(box, 10, 8, measures, measures), [
            ("z", 0, 0, 10, 8), ("y", 2, 4, 3, 3), ("x", 0, 5, 3, 3), ("w", 4, 2, 3, 3)])

    def test_wide_and_high_are_kept_apart(self):
        box = over("top", [(("end", 0), ("start", 1))], leaf("a"), leaf("b"))
        wides, highs = {"a": (0, 0, 0), "b": (0, 1, 4)}, {"a": (0, 0, 0), "b": (0, 6, 9)}
        self.assertEqual(over_laid(box, 9, 8, wides, highs)[1], ("b", 8, 1, 1, 6))

    def test_every_place_tried(self):
        greater = 0
        for box, width, height, wides, highs in CASES:
            due = laid_by_words(box, width, height, wides, highs)
            self.assertEqual(over_laid(box, width, height, wides, highs), due, (box, width, height, wides, highs))
            self.assertEqual(part_places(box, width, height, wides, highs, None), {each[0]: each[1:] for each in due})
            for _, x, y, wide, high in due:
                self.assertTrue(0 <= x <= x + wide <= width and 0 <= y <= y + high <= height)
            greater += any(wides[part[1]][1] > width for part in box[4][1:])
        self.assertGreater(greater, 100)

    def test_handed_in_and_told(self):
        for box, width, height, wides, highs in CASES[:50]:
            handed = copy.deepcopy((box, wides, highs))
            before = all_told(box, width, height, wides, highs)
            kept = copy.deepcopy(before)
            for told in before:
                told.clear()
            self.assertEqual((box, wides, highs), handed)
            self.assertEqual(all_told(box, width, height, wides, highs), kept)


if __name__ == "__main__":
    unittest.main()
