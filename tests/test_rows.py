"""Where things stand in a line (2, 3, 17)."""

import copy
import itertools
import unittest

from boxgalley.rows import stand

ALIGNS = ("start", "end", "mid", "mid2")
SIDES = ("left", "right")


def stand_by_cells(room, gap, align, side, sizes):
    """The line written out cell by cell: what is over, the things and the gaps."""
    line = []
    for number, size in enumerate(sizes):
        line += [None] * (gap if number else 0) + [("begin", number)] + [number] * size
    cells = [cell for cell in line if not isinstance(cell, tuple)]
    over = ["over"] * (room - len(cells))
    ahead = {"start": 0, "end": len(over), "mid": len(over) // 2, "mid2": (len(over) + 1) // 2}[align]
    line = over[:ahead] + line + over[ahead:]
    begins, at = [], 0
    for cell in line:
        if isinstance(cell, tuple):
            begins.append(min(at, room))
        else:
            at += 1
    if side == "left":
        return begins
    return [room - begin - size for begin, size in zip(begins, sizes)]


def cells_of(begin, size):
    return set(range(begin, begin + size))


class Stand(unittest.TestCase):
    def all_aligns(self, room, gap, side, sizes):
        return [stand(room, gap, align, side, sizes) for align in ALIGNS]

    def test_an_odd_number_over(self):
        self.assertEqual(self.all_aligns(12, 1, "left", [2, 3, 2]), [[0, 3, 7], [3, 6, 10], [1, 4, 8], [2, 5, 9]])

    def test_an_even_number_over(self):
        self.assertEqual(self.all_aligns(13, 1, "left", [2, 3, 2]), [[0, 3, 7], [4, 7, 11], [2, 5, 9], [2, 5, 9]])

    def test_one_cell_over(self):
        self.assertEqual(self.all_aligns(10, 1, "left", [2, 3, 2]), [[0, 3, 7], [1, 4, 8], [0, 3, 7], [1, 4, 8]])

    def test_none_over(self):
        self.assertEqual(self.all_aligns(9, 1, "left", [2, 3, 2]), [[0, 3, 7]] * 4)
        self.assertEqual(self.all_aligns(9, 1, "right", [2, 3, 2]), [[7, 3, 0]] * 4)

    def test_the_side_right(self):
        self.assertEqual(self.all_aligns(12, 1, "right", [2, 3, 2]),
                         [[10, 6, 3], [7, 3, 0], [9, 5, 2], [8, 4, 1]])
        self.assertEqual(self.all_aligns(13, 1, "right", [2, 3, 2]),
                         [[11, 7, 4], [7, 3, 0], [9, 5, 2], [9, 5, 2]])

    def test_no_sizes(self):
        for room in (0, 1, 9):
            for side in SIDES:
                self.assertEqual(self.all_aligns(room, 3, side, []), [[]] * 4)

    def test_one_size_has_no_gap(self):
        self.assertEqual(self.all_aligns(10, 1000, "left", [3]), [[0], [7], [3], [4]])
        self.assertEqual(self.all_aligns(10, 1000, "right", [3]), [[7], [0], [4], [3]])

    def test_each_begins_at_the_room_at_the_latest(self):
        for align in ALIGNS:
            self.assertEqual(stand(5, 3, align, "left", [0, 0, 0, 0]), [0, 3, 5, 5])
            self.assertEqual(stand(5, 3, align, "right", [0, 0, 0, 0]), [5, 2, 0, 0])
            self.assertEqual(stand(0, 3, align, "left", [0, 0]), [0, 0])
            self.assertEqual(stand(0, 3, align, "right", [0, 0]), [0, 0])
            self.assertEqual(stand(6, 3, align, "left", [0, 0, 0]), [0, 3, 6])

    def test_sizes_that_come_to_more_than_the_room(self):
        for align in ALIGNS:
            self.assertEqual(stand(10, 1, align, "left", [4, 8, 2]), [0, 5, 10])
            self.assertEqual(stand(10, 1, align, "right", [4, 8, 2]), [6, -3, -2])
            self.assertEqual(stand(4, 0, align, "left", [4, 1, 9]), [0, 4, 4])
            self.assertEqual(stand(4, 0, align, "right", [5]), [-1])
            self.assertEqual(stand(0, 0, align, "left", [3, 4]), [0, 0])

    def test_great_rooms(self):
        self.assertEqual(self.all_aligns(10 ** 9, 1000, "left", [10 ** 6, 1]),
                         [[0, 1001000], [998998999, 10 ** 9 - 1], [499499499, 500500499], [499499500, 500500500]])

    def test_every_small_line(self):
        for many in range(4):
            for sizes in itertools.product(range(4), repeat=many):
                for room in range(0, 14, 1 if many < 3 else 3):
                    for gap, align, side in itertools.product(range(4), ALIGNS, SIDES):
                        due = stand_by_cells(room, gap, align, side, sizes)
                        told = stand(room, gap, align, side, list(sizes))
                        self.assertEqual(told, due, (room, gap, align, side, sizes))
                        self.apart(room, gap, sizes, told)

    def apart(self, room, gap, sizes, begins):
        """What a share gives comes to the room less the gaps, or 0, at most."""
        if sum(sizes) > max(room - gap * (len(sizes) - 1), 0):
            return
        taken = [cells_of(begin, size) for begin, size in zip(begins, sizes)]
        self.assertEqual(len(set().union(*taken)), sum(sizes))
        for begin, size in zip(begins, sizes):
            self.assertTrue(0 <= begin <= begin + size <= room)

    def test_mirrored(self):
        for sizes in itertools.product(range(4), repeat=3):
            for room, gap, align in itertools.product(range(0, 14, 3), range(4), ALIGNS):
                left, right = (stand(room, gap, align, side, list(sizes)) for side in SIDES)
                self.assertEqual(right, [room - begin - size for begin, size in zip(left, sizes)])

    def test_handed_in_and_told(self):
        sizes = [2, 3, 2]
        handed = copy.copy(sizes)
        for side in SIDES:
            told = stand(12, 1, "mid", side, sizes)
            before = list(told)
            self.assertEqual(sizes, handed)
            told.clear()
            self.assertEqual(stand(12, 1, "mid", side, sizes), before)
        again = stand(12, 1, "mid", "left", sizes)
        before = list(again)
        sizes.clear()
        self.assertEqual(again, before)


if __name__ == "__main__":
    unittest.main()
