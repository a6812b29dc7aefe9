"""Anchors, and things anchored in a room (2, 36, 37, 44)."""

import copy
import unittest

from boxgalley.overs import anchored, over_places

WORDS = ("start", "mid", "mid2", "end")
OTHER = {"start": "end", "mid": "mid2", "mid2": "mid", "end": "start"}
FARTHEST = 10 ** 6


def base_of(room, size, word):
    """By cells ahead and behind: mid has the odd one behind, mid2 ahead."""
    ahead, behind = 0, room - size
    while word == "end" and behind or word in ("mid", "mid2") and behind - ahead > (word == "mid"):
        ahead, behind = ahead + 1, behind - 1
    return ahead


class Anchored(unittest.TestCase):
    def test_even_rooms(self):
        self.assertEqual([anchored(10, 4, (word, 0)) for word in WORDS], [0, 3, 3, 6])

    def test_odd_rooms(self):
        self.assertEqual([anchored(11, 4, (word, 0)) for word in WORDS], [0, 3, 4, 7])
        self.assertEqual([anchored(1, 0, (word, 0)) for word in WORDS], [0, 0, 1, 1])

    def test_by(self):
        self.assertEqual([anchored(11, 4, (word, 2)) for word in WORDS], [2, 5, 6, 7])
        self.assertEqual([anchored(11, 4, (word, -2)) for word in WORDS], [0, 1, 2, 5])

    def test_by_up_to_either_edge_and_beyond(self):
        for word, base in zip(WORDS, (0, 3, 4, 7)):
            for by in list(range(-9, 10)) + [-FARTHEST, FARTHEST]:
                self.assertEqual(anchored(11, 4, (word, by)), sorted((0, base + by, 7))[1])

    def test_a_thing_as_wide_as_its_room(self):
        for room in (0, 1, 8, FARTHEST):
            for word in WORDS:
                for by in (-FARTHEST, -1, 0, 1, FARTHEST):
                    self.assertEqual(anchored(room, room, (word, by)), 0)

    def test_great_rooms(self):
        self.assertEqual([anchored(FARTHEST, 1, (word, 0)) for word in WORDS], [0, 499999, 500000, 999999])
        self.assertEqual(anchored(FARTHEST, 0, ("start", FARTHEST)), FARTHEST)
        self.assertEqual(anchored(FARTHEST, 0, ("end", -FARTHEST)), 0)

    def test_every_small_room(self):
        for room in range(9):
            for size in range(room + 1):
                for word in WORDS:
                    for by in range(-10, 11):
                        due = min(max(base_of(room, size, word) + by, 0), room - size)
                        self.assertEqual(anchored(room, size, (word, by)), due, (room, size, word, by))

    def test_mirrored_anchors(self):
        for room in range(9):
            for size in range(room + 1):
                for word in WORDS:
                    for by in range(-10, 11):
                        self.assertEqual(anchored(room, size, (OTHER[word], -by)),
                                         room - size - anchored(room, size, (word, by)))


class Places(unittest.TestCase):
    def test_no_things(self):
        self.assertEqual(over_places(5, 4, []), [])
        self.assertEqual(over_places(0, 0, []), [])

    def test_things_in_their_order(self):
        things = [("z", 4, 2, ("mid", 0), ("end", -1)), ("a", 10, 6, ("start", 3), ("start", 3)),
                  ("m", 0, 0, ("end", 0), ("mid2", 1))]
        self.assertEqual(over_places(11, 7, things), [("z", 3, 4, 4, 2), ("a", 1, 1, 10, 6), ("m", 11, 5, 0, 0)])

    def test_sizes_are_cut_to_the_room(self):
        for word in WORDS:
            things = [("a", 12, 8, (word, 2), (word, -2)), ("b", 12, 3, (word, 2), ("end", 0)),
                      ("c", 3, 8, ("end", 0), (word, 2)), ("d", 11, 7, (word, 1), (word, 1))]
            self.assertEqual(over_places(11, 7, things), [
                ("a", 0, 0, 11, 7), ("b", 0, 4, 11, 3), ("c", 8, 0, 3, 7), ("d", 0, 0, 11, 7)])

    def test_across_and_down_are_kept_apart(self):
        self.assertEqual(over_places(9, 6, [("a", 2, 3, ("end", -1), ("start", 2))]), [("a", 6, 2, 2, 3)])
        self.assertEqual(over_places(9, 6, [("a", 2, 3, ("start", 2), ("end", -1))]), [("a", 2, 2, 2, 3)])

    def test_a_room_of_nothing(self):
        self.assertEqual(over_places(0, 0, [("a", 5, 5, ("end", 3), ("mid2", 3))]), [("a", 0, 0, 0, 0)])
        self.assertEqual(over_places(0, 4, [("a", 5, 3, ("end", 3), ("end", 0))]), [("a", 0, 1, 0, 3)])

    def test_places_are_as_anchored_for_the_cut_sizes(self):
        for wide in range(6):
            for high in range(6):
                things = [(word + other, wide, high, (word, 1), (other, -1)) for word in WORDS for other in WORDS]
                due = [(name, anchored(4, min(4, w), across), anchored(3, min(3, h), down), min(4, w), min(3, h))
                       for name, w, h, across, down in things]
                self.assertEqual(over_places(4, 3, things), due)
                for _, x, y, w, h in due:
                    self.assertTrue(0 <= x <= x + w <= 4 and 0 <= y <= y + h <= 3)

    def test_mirrored_things(self):
        things = [(word, size, 2, (word, by), ("mid", 1)) for word in WORDS for size in range(9) for by in range(-3, 4)]
        other = [(name, w, h, (OTHER[across[0]], -across[1]), down) for name, w, h, across, down in things]
        self.assertEqual(over_places(7, 5, other), [(name, 7 - x - w, y, w, h)
                                                    for name, x, y, w, h in over_places(7, 5, things)])

    def test_handed_in_and_told(self):
        things = [("z", 4, 2, ("mid", 0), ("end", -1)), ("a", 10, 6, ("start", 3), ("start", 3))]
        handed = copy.deepcopy(things)
        told = over_places(11, 7, things)
        before = list(told)
        self.assertEqual(things, handed)
        told.clear()
        self.assertEqual(over_places(11, 7, things), before)
        again = over_places(11, 7, things)
        things.clear()
        self.assertEqual(again, before)


if __name__ == "__main__":
    unittest.main()
