"""Room dealt, poured and shared (2, 4, 5, 7, 8)."""

import copy
import itertools
import math
import unittest

from boxgalley.shares import deal, pour, share
from sharesearch import all_sizes, deal_cases, dealt, pour_cases, poured_out, share_cases, shared_out

DEALS = deal_cases(1500)
POURS = pour_cases(2000, 6, 40) + pour_cases(500, 6, 10 ** 6)
SHARES = share_cases(4000, 5, 12) + share_cases(500, 6, 10 ** 6)


class Dealing(unittest.TestCase):
    def test_a_deal(self):
        self.assertEqual(deal(10, {"a": 1, "b": 1, "c": 1}), {"a": 4, "b": 3, "c": 3})
        self.assertEqual(deal(10, {"a": 3, "b": 2}), {"a": 6, "b": 4})
        self.assertEqual(deal(7, {"only": 5}), {"only": 7})

    def test_cells_left_go_by_the_greatest_rests(self):
        # 10 * 2 / 7 = 2 6/7, 10 * 4 / 7 = 5 5/7, 10 * 1 / 7 = 1 3/7: two cells are left.
        self.assertEqual(deal(10, {"c": 1, "b": 4, "a": 2}), {"a": 3, "b": 6, "c": 1})
        self.assertEqual(deal(10, {"a": 1, "b": 4, "c": 2}), {"a": 1, "b": 6, "c": 3})

    def test_alike_rests_go_to_the_lesser_names(self):
        self.assertEqual(deal(2, {"c": 1, "b": 1, "a": 1}), {"a": 1, "b": 1, "c": 0})
        self.assertEqual(deal(1, {"b": 2, "ab": 2, "abc": 2}), {"ab": 1, "abc": 0, "b": 0})
        self.assertEqual(deal(1, {"10": 1, "9": 1, "a": 1, "B": 1, "": 1}), {"": 1, "10": 0, "9": 0, "B": 0, "a": 0})

    def test_the_rest_counts_ahead_of_the_name(self):
        self.assertEqual(deal(1, {"a": 1, "z": 2}), {"a": 0, "z": 1})

    def test_weights_of_nought(self):
        self.assertEqual(deal(5, {"a": 0, "b": 1, "c": 1}), {"a": 0, "b": 3, "c": 2})
        self.assertEqual(deal(10 ** 9, {"a": 0, "b": 10 ** 6}), {"a": 0, "b": 10 ** 9})

    def test_no_room(self):
        self.assertEqual(deal(0, {"a": 0, "b": 3, "c": 4}), {"a": 0, "b": 0, "c": 0})

    def test_nothing_is_refused_somewhat_beyond(self):
        self.assertEqual(deal(3, {}), {})
        self.assertEqual(deal(3, {"a": 0, "b": 0}), {"a": 0, "b": 0})
        self.assertEqual(deal(3, {"a": 10 ** 7, "b": 2 * 10 ** 7}), {"a": 1, "b": 2})

    def test_all_cells_are_dealt_each_name_its_whole_part_or_one_more(self):
        ones_more = 0
        for room, weights in DEALS:
            sizes = deal(room, weights)
            self.assertEqual(sum(sizes.values()), room)
            self.assertEqual(sizes.keys(), weights.keys())
            for name, weight in weights.items():
                whole = room * weight // sum(weights.values())
                self.assertIn(sizes[name] - whole, (0, 1))
                ones_more += sizes[name] - whole
        self.assertGreater(ones_more, 300)

    def test_against_fractions(self):
        for room, weights in DEALS:
            self.assertEqual(deal(room, weights), dealt(room, weights), (room, weights))

    def test_every_small_deal(self):
        for weights in all_sizes("bac", 0, 4):
            for room in range(12 if any(weights.values()) else 0):
                self.assertEqual(deal(room, weights), dealt(room, weights), (room, weights))


class Pouring(unittest.TestCase):
    def test_room_enough_for_all_caps(self):
        self.assertEqual(pour(10, {"a": 1, "b": 2}, {"a": 3, "b": 4}), ({"a": 3, "b": 4}, None))
        self.assertEqual(pour(7, {"a": 1, "b": 2}, {"a": 3, "b": 4}), ({"a": 3, "b": 4}, None))

    def test_one_cell_less(self):
        self.assertEqual(pour(6, {"a": 1, "b": 2}, {"a": 3, "b": 4}), ({"a": 2, "b": 4}, (2, 1)))

    def test_names_of_weight_nought(self):
        self.assertEqual(pour(9, {"a": 0, "b": 1}, {"a": 5, "b": 4}), ({"a": 0, "b": 4}, None))
        self.assertEqual(pour(4, {"a": 0, "b": 1}, {"a": 5, "b": 4}), ({"a": 0, "b": 4}, None))
        self.assertEqual(pour(3, {"a": 0, "b": 1}, {"a": 5, "b": 4}), ({"a": 0, "b": 3}, (3, 1)))
        self.assertEqual(pour(3, {"a": 0, "b": 0}, {"a": 5, "b": 4}), ({"a": 0, "b": 0}, None))

    def test_the_level_in_lowest_terms(self):
        self.assertEqual(pour(4, {"a": 2, "b": 4}, {"a": 9, "b": 9}), ({"a": 1, "b": 3}, (2, 3)))
        self.assertEqual(pour(6, {"a": 2, "b": 4}, {"a": 9, "b": 9}), ({"a": 2, "b": 4}, (1, 1)))
        self.assertEqual(pour(5, {"a": 1, "b": 1}, {"a": 9, "b": 9}), ({"a": 3, "b": 2}, (5, 2)))

    def test_full_names_get_their_caps_and_the_others_are_dealt_the_rest(self):
        self.assertEqual(pour(10, {"a": 1, "b": 1, "c": 1}, {"a": 2, "b": 9, "c": 9}),
                         ({"a": 2, "b": 4, "c": 4}, (4, 1)))
        self.assertEqual(pour(11, {"a": 1, "b": 1, "c": 1}, {"a": 2, "b": 9, "c": 9}),
                         ({"a": 2, "b": 5, "c": 4}, (9, 2)))

    def test_one_full_name_makes_the_next_one_full(self):
        caps = {"a": 1, "b": 3, "c": 5, "d": 50}
        self.assertEqual(pour(16, {"a": 1, "b": 1, "c": 1, "d": 1}, caps), ({"a": 1, "b": 3, "c": 5, "d": 7}, (7, 1)))

    def test_a_cap_just_at_the_level_is_full(self):
        self.assertEqual(pour(6, {"a": 1, "b": 2}, {"a": 2, "b": 5}), ({"a": 2, "b": 4}, (2, 1)))
        self.assertEqual(pour(7, {"b": 1, "a": 1, "c": 1}, {"a": 9, "b": 2, "c": 9}),
                         ({"a": 3, "b": 2, "c": 2}, (5, 2)))

    def test_a_cell_left_brings_a_name_to_its_cap_at_the_most(self):
        self.assertEqual(pour(3, {"a": 1, "b": 1}, {"a": 2, "b": 2}), ({"a": 2, "b": 1}, (3, 2)))

    def test_no_room(self):
        self.assertEqual(pour(0, {"a": 1, "b": 2}, {"a": 3, "b": 0}), ({"a": 0, "b": 0}, (0, 1)))
        self.assertEqual(pour(0, {"a": 1, "b": 2}, {"a": 0, "b": 0}), ({"a": 0, "b": 0}, None))
        self.assertEqual(pour(0, {"a": 0, "b": 0}, {"a": 3, "b": 4}), ({"a": 0, "b": 0}, None))

    def test_no_names(self):
        self.assertEqual(pour(0, {}, {}), ({}, None))
        self.assertEqual(pour(9, {}, {}), ({}, None))

    def test_great_numbers(self):
        self.assertEqual(pour(10 ** 9, {"a": 10 ** 6, "b": 1}, {"a": 10 ** 30, "b": 10 ** 30}),
                         ({"a": 10 ** 9 - 1000, "b": 1000}, (10 ** 9, 10 ** 6 + 1)))

    def test_what_5_says_of_all_sizes_and_levels(self):
        levels = 0
        for room, weights, caps in POURS:
            sizes, level = pour(room, weights, caps)
            able = sum(caps[name] for name in caps if weights[name])
            self.assertEqual(sizes.keys(), weights.keys())
            self.assertEqual(sum(sizes.values()), min(room, able))
            for name, size in sizes.items():
                self.assertTrue(0 <= size <= caps[name] and (weights[name] or not size))
            self.assertIs(level is None, room >= able)
            if level is not None:
                levels += 1
                p, q = level
                self.assertTrue(p >= 0 and q > 0 and math.gcd(p, q) == 1)
                self.assertEqual(sum(min(caps[name] * q, weights[name] * p) for name in caps), room * q)
        self.assertGreater(levels, 800)

    def test_against_fractions(self):
        for case in POURS:
            self.assertEqual(pour(*case), poured_out(*case), case)

    def test_every_small_pouring(self):
        for weights, caps in itertools.product(all_sizes("bca", 0, 2), all_sizes("abc", 0, 3)):
            for room in range(sum(caps.values()) + 2):
                self.assertEqual(pour(room, weights, caps), poured_out(room, weights, caps), (room, weights, caps))

    def test_a_level_is_a_tuple_of_whole_numbers(self):
        sizes, level = pour(5, {"a": 1, "b": 1}, {"a": 9, "b": 9})
        self.assertEqual((type(sizes), type(level), {type(number) for number in level}), (dict, tuple, {int}))


class Sharing(unittest.TestCase):
    def test_room_above_the_wishes(self):
        items = {"a": (1, 4, 6, 1, 1, 0), "b": (0, 2, 9, 2, 1, 0)}
        self.assertEqual(share(9, items), ({"a": 5, "b": 4}, 0, [(1, 1)]))
        self.assertEqual(share(14, items), ({"a": 6, "b": 8}, 0, [(3, 1)]))
        self.assertEqual(share(15, items), ({"a": 6, "b": 9}, 0, [None]))

    def test_what_nobody_gets_is_over(self):
        self.assertEqual(share(20, {"a": (1, 4, 6, 1, 1, 0), "b": (0, 2, 9, 2, 1, 0)}), ({"a": 6, "b": 9}, 5, [None]))
        self.assertEqual(share(20, {"a": (1, 4, 6, 0, 1, 0), "b": (0, 2, 9, 0, 1, 0)}), ({"a": 4, "b": 2}, 14, [None]))
        self.assertEqual(share(20, {"a": (1, 4, 6, 1, 1, 0), "b": (0, 2, 9, 0, 1, 0)}), ({"a": 6, "b": 2}, 12, [None]))

    def test_room_just_of_the_wishes(self):
        self.assertEqual(share(6, {"a": (1, 4, 6, 1, 1, 0), "b": (0, 2, 9, 2, 1, 0)}), ({"a": 4, "b": 2}, 0, [(0, 1)]))
        self.assertEqual(share(6, {"a": (1, 4, 4, 1, 1, 0), "b": (0, 2, 9, 0, 1, 0)}), ({"a": 4, "b": 2}, 0, [None]))

    def test_between_leasts_and_wishes(self):
        items = {"a": (1, 7, 9, 0, 1, 0), "b": (2, 8, 9, 0, 2, 0)}
        self.assertEqual(share(12, items), ({"a": 6, "b": 6}, 0, [(1, 1)]))
        self.assertEqual(share(4, items), ({"a": 2, "b": 2}, 0, [(5, 1)]))
        self.assertEqual(share(3, items), ({"a": 1, "b": 2}, 0, [None]))

    def test_a_second_pouring_where_the_first_does_not_come_to_all_that_lacks(self):
        items = {"a": (1, 7, 9, 0, 1, 0), "b": (2, 8, 9, 0, 0, 0), "c": (0, 4, 4, 0, 0, 0)}
        self.assertEqual(share(14, items), ({"a": 2, "b": 8, "c": 4}, 0, [(5, 1)]))
        self.assertEqual(share(13, items), ({"a": 1, "b": 8, "c": 4}, 0, [None]))
        self.assertEqual(share(12, items), ({"a": 1, "b": 7, "c": 4}, 0, [None, (1, 2)]))
        self.assertEqual(share(4, items), ({"a": 1, "b": 3, "c": 0}, 0, [None, (5, 1)]))
        self.assertEqual(share(3, items), ({"a": 1, "b": 2, "c": 0}, 0, [None, None]))

    def test_no_item_shrinks_by_itself(self):
        items = {"a": (1, 7, 9, 5, 0, 0), "b": (2, 8, 9, 5, 0, 0)}
        self.assertEqual(share(11, items), ({"a": 5, "b": 6}, 0, [None, (2, 1)]))

    def test_below_the_leasts_rank_by_rank(self):
        items = {"a": (4, 5, 9, 1, 1, 0), "b": (6, 6, 9, 1, 1, 3), "c": (2, 3, 9, 1, 1, 0), "d": (5, 5, 5, 1, 1, 7)}
        self.assertEqual(share(16, items), ({"a": 3, "b": 6, "c": 2, "d": 5}, 0, [(1, 2)]))
        self.assertEqual(share(13, items), ({"a": 2, "b": 6, "c": 0, "d": 5}, 0, [(2, 1)]))
        self.assertEqual(share(11, items), ({"a": 0, "b": 6, "c": 0, "d": 5}, 0, [None]))
        self.assertEqual(share(10, items), ({"a": 0, "b": 5, "c": 0, "d": 5}, 0, [None, (1, 1)]))
        self.assertEqual(share(5, items), ({"a": 0, "b": 0, "c": 0, "d": 5}, 0, [None, None]))
        self.assertEqual(share(1, items), ({"a": 0, "b": 0, "c": 0, "d": 1}, 0, [None, None, (4, 1)]))
        self.assertEqual(share(0, items), ({"a": 0, "b": 0, "c": 0, "d": 0}, 0, [None, None, None]))

    def test_a_rank_that_has_nothing_to_give_is_come_to(self):
        items = {"a": (0, 5, 9, 1, 1, 0), "b": (6, 6, 9, 1, 1, 9)}
        self.assertEqual(share(4, items), ({"a": 0, "b": 4}, 0, [None, (2, 1)]))

    def test_a_rank_behind_the_last_that_gave_is_not_come_to(self):
        items = {"a": (6, 6, 9, 1, 1, 2), "b": (0, 5, 9, 1, 1, 4), "c": (3, 5, 9, 1, 1, 5)}
        self.assertEqual(share(3, items), ({"a": 0, "b": 0, "c": 3}, 0, [None]))

    def test_weights_do_not_matter_below_the_leasts(self):
        items = {"a": (4, 5, 9, 9, 99, 0), "b": (4, 6, 9, 0, 0, 0)}
        self.assertEqual(share(5, items), ({"a": 2, "b": 3}, 0, [(3, 2)]))

    def test_no_items(self):
        for room in (0, 1, 10 ** 9):
            self.assertEqual(share(room, {}), ({}, room, [None]))

    def test_sizes_and_what_is_over_come_to_the_room(self):
        for room, items in SHARES:
            sizes, over, levels = share(room, items)
            self.assertEqual(sizes.keys(), items.keys())
            self.assertEqual(sum(sizes.values()) + over, room)
            self.assertGreaterEqual(over, 0)
            for name, size in sizes.items():
                enough = room >= sum(item[0] for item in items.values())
                self.assertTrue((items[name][0] if enough else 0) <= size <= items[name][2])

    def test_against_the_words(self):
        seen = {}
        for room, items in SHARES:
            due = shared_out(room, items)
            self.assertEqual(share(room, items), due, (room, items))
            kind = sum(room < sum(item[place] for item in items.values()) for place in (0, 1))
            seen[(kind, len(due[2]))] = seen.get((kind, len(due[2])), 0) + 1
        self.assertGreater(min(seen[kind] for kind in ((0, 1), (1, 1), (1, 2), (2, 1), (2, 2), (2, 3))), 30, seen)

    def test_every_small_share(self):
        bounds = [item for item in itertools.product(range(3), repeat=3) if item == tuple(sorted(item))]
        some = [bound + rest for bound in bounds for rest in ((0, 0, 1), (1, 0, 0), (2, 3, 0), (0, 1, 1))]
        for one, other in itertools.product(some, repeat=2):
            items = {"b": one, "a": other}
            for room in range(6):
                self.assertEqual(share(room, items), shared_out(room, items), (room, items))


class HandedInAndTold(unittest.TestCase):
    def test_nothing_handed_in_is_changed(self):
        for what, cases in ((deal, DEALS[:300]), (pour, POURS[:500]), (share, SHARES[:500])):
            for case in cases:
                handed = copy.deepcopy(case)
                what(*handed)
                self.assertEqual(handed, case)
                self.assertEqual([list(thing) for thing in handed[1:]], [list(thing) for thing in case[1:]])

    def test_what_is_told_may_be_changed(self):
        for what, cases in ((deal, DEALS[:300]), (pour, POURS[:500]), (share, SHARES[:500])):
            for case in cases:
                told = what(*case)
                handed, before = copy.deepcopy(case), copy.deepcopy(told)
                for thing in (told if isinstance(told, tuple) else (told,)):
                    if isinstance(thing, (list, dict)):
                        thing.clear()
                self.assertEqual(case, handed)
                self.assertEqual(what(*case), before)

    def test_what_is_told_stays(self):
        weights, caps, items = {"a": 1, "b": 2}, {"a": 9, "b": 1}, {"a": (1, 4, 6, 1, 1, 0)}
        told = deal(4, weights), pour(4, weights, caps), share(3, items)
        before = copy.deepcopy(told)
        for thing in (weights, caps, items):
            thing.clear()
        self.assertEqual(told, before)


if __name__ == "__main__":
    unittest.main()
