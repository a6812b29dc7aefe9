"""Where the lines of a wrap begin (2, 19)."""

import itertools
import unittest

from boxgalley.wraps import lines_of


def comes_to(gap, wishes):
    return sum(wishes) + gap * (len(wishes) - 1)


def lines_by_lists(width, gap, wishes):
    """The longest first line that does, and then the others."""
    if not wishes:
        return []
    fit = [many for many in range(1, len(wishes) + 1)
           if all(comes_to(gap, wishes[:each]) <= width for each in range(2, many + 1))]
    many = max(fit)
    return [0] + [many + start for start in lines_by_lists(width, gap, wishes[many:])]


class Lines(unittest.TestCase):
    def test_no_wishes(self):
        for width, gap in ((0, 0), (10, 0), (10, 3)):
            self.assertEqual(lines_of(width, gap, []), [])

    def test_a_wish_that_just_comes_in_and_one_that_does_not(self):
        self.assertEqual(lines_of(10, 0, [4, 6, 1]), [0, 2])
        self.assertEqual(lines_of(10, 0, [4, 7, 1]), [0, 1])
        self.assertEqual(lines_of(10, 0, [10, 1]), [0, 1])
        self.assertEqual(lines_of(10, 0, [5, 5, 5, 5]), [0, 2])
        self.assertEqual(lines_of(10, 0, [3, 3, 3, 1, 1]), [0, 4])

    def test_gaps(self):
        self.assertEqual(lines_of(10, 1, [4, 5, 1]), [0, 2])
        self.assertEqual(lines_of(10, 1, [4, 6, 1]), [0, 1])
        self.assertEqual(lines_of(10, 2, [2, 2, 2]), [0])
        self.assertEqual(lines_of(9, 2, [2, 2, 2]), [0, 2])
        self.assertEqual(lines_of(10, 11, [0, 0, 0]), [0, 1, 2])
        self.assertEqual(lines_of(10, 10, [0, 0, 0]), [0, 2])
        self.assertEqual(lines_of(10, 5, [10]), [0])

    def test_a_wish_wider_than_the_width(self):
        self.assertEqual(lines_of(10, 0, [11]), [0])
        self.assertEqual(lines_of(10, 0, [11, 0]), [0, 1])
        self.assertEqual(lines_of(10, 0, [1, 11, 1]), [0, 1, 2])
        self.assertEqual(lines_of(10, 1, [20, 30, 3, 3]), [0, 1, 2])
        self.assertEqual(lines_of(0, 0, [1, 1]), [0, 1])

    def test_wishes_of_nothing(self):
        self.assertEqual(lines_of(0, 0, [0, 0, 0]), [0])
        self.assertEqual(lines_of(10, 0, [10, 0, 0, 1]), [0, 3])
        self.assertEqual(lines_of(0, 1, [0, 0, 0]), [0, 1, 2])

    def test_great_widths(self):
        self.assertEqual(lines_of(10 ** 9, 1000, [10 ** 6] * 20), [0])
        self.assertEqual(lines_of(10 ** 6, 1000, [499500, 499500, 0]), [0, 2])

    def test_every_small_wrap(self):
        for many in range(5):
            for wishes in itertools.product(range(5), repeat=many):
                for width, gap in itertools.product(range(7), range(3)):
                    self.assertEqual(lines_of(width, gap, list(wishes)), lines_by_lists(width, gap, list(wishes)),
                                     (width, gap, wishes))

    def test_lines_are_as_long_as_may_be(self):
        for wishes in itertools.product(range(0, 8, 2), repeat=5):
            starts = lines_of(9, 1, list(wishes))
            self.assertEqual((starts[0], sorted(set(starts))), (0, starts))
            for start, end in zip(starts, starts[1:] + [5]):
                self.assertTrue(end == start + 1 or comes_to(1, wishes[start:end]) <= 9)
                self.assertTrue(end == 5 or comes_to(1, wishes[start:end + 1]) > 9)

    def test_handed_in_and_told(self):
        wishes = [4, 7, 1]
        told = lines_of(10, 0, wishes)
        self.assertEqual(wishes, [4, 7, 1])
        told.clear()
        again = lines_of(10, 0, wishes)
        self.assertEqual(again, [0, 1])
        wishes.clear()
        self.assertEqual(again, [0, 1])


if __name__ == "__main__":
    unittest.main()
