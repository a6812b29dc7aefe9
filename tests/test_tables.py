"""The columns and rows of tables, raised part by part, and what tables ask for (2, 3, 4, 12, 13, 16, 22, 25)."""

import copy
import itertools
import random
import unittest

from boxgalley.kinds import high_asked, wide_asked
from boxgalley.tables import columns_of, raise_tracks, rows_of, table_high, table_wide
from boxsearch import table_asks, table_cases, table_tracks, tracks_by_cells, tracks_by_deals
from treesearch import leaf, leaves, names_from, table

CASES = table_cases(600)


def some_asks(chance, many, most, top):
    names = chance.sample(["a", "b", "ab", "ba", "c", "zz", "z", "aaaaaaaa", "k", "kk", "m", "n"], most)
    asks = []
    for name in names if many else []:
        spanned = chance.choice((1, chance.randint(1, many), chance.randint(1, many), chance.randint(1, min(3, many))))
        amount = chance.choice((0, 1) + (chance.randint(0, top),) * 6)
        asks.append((name, chance.randint(0, many - spanned), spanned, amount))
    return asks


def numbers_before(floor, asks):
    """What stands ahead of all raises."""
    numbers = list(floor)
    for _, first, spanned, amount in asks:
        if spanned == 1:
            numbers[first] = max(numbers[first], amount)
    return numbers


class Raised(unittest.TestCase):
    def judged(self, many, gap, floor, asks, by):
        told = raise_tracks(many, gap, floor, asks)
        self.assertEqual(told, by(many, gap, floor, asks), (many, gap, floor, asks))
        numbers = numbers_before(floor, asks)
        for _, column, cells in told[1]:
            self.assertGreater(cells, 0)
            numbers[column] += cells
        self.assertEqual(numbers, told[0])
        for _, first, spanned, amount in asks:
            self.assertGreaterEqual(sum(told[0][first:first + spanned]) + gap * (spanned - 1), amount)

    def test_no_column(self):
        for gap in (0, 1, 1000):
            self.assertEqual(raise_tracks(0, gap, [], []), ([], []))

    def test_no_asks(self):
        self.assertEqual(raise_tracks(3, 5, [4, 0, 2], []), ([4, 0, 2], []))

    def test_one_column(self):
        self.assertEqual(raise_tracks(1, 7, [0], []), ([0], []))
        self.assertEqual(raise_tracks(1, 7, [3], [("a", 0, 1, 2)]), ([3], []))
        self.assertEqual(raise_tracks(1, 7, [3], [("a", 0, 1, 3)]), ([3], []))
        self.assertEqual(raise_tracks(1, 7, [3], [("a", 0, 1, 4)]), ([4], []))
        self.assertEqual(raise_tracks(1, 7, [3], [("b", 0, 1, 4), ("a", 0, 1, 9), ("c", 0, 1, 5)]), ([9], []))

    def test_asks_of_nothing(self):
        asks = [("a", 0, 1, 0), ("b", 0, 2, 0), ("c", 1, 2, 0)]
        self.assertEqual(raise_tracks(3, 0, [0, 0, 0], asks), ([0, 0, 0], []))
        self.assertEqual(raise_tracks(3, 4, [1, 0, 0], asks), ([1, 0, 0], []))

    def test_one_column_alone_above_and_below_its_floor(self):
        asks = [("a", 0, 1, 5), ("b", 1, 1, 1), ("c", 2, 1, 2)]
        self.assertEqual(raise_tracks(3, 1, [2, 2, 2], asks), ([5, 2, 2], []))

    def test_cells_left_go_to_the_lesser_numbers(self):
        self.assertEqual(raise_tracks(3, 0, [0, 0, 0], [("z", 0, 3, 1)]), ([1, 0, 0], [("z", 0, 1)]))
        self.assertEqual(raise_tracks(3, 0, [0, 0, 0], [("z", 0, 3, 2)]), ([1, 1, 0], [("z", 0, 1), ("z", 1, 1)]))
        self.assertEqual(raise_tracks(3, 0, [0, 0, 0], [("z", 0, 3, 8)]),
                         ([3, 3, 2], [("z", 0, 3), ("z", 1, 3), ("z", 2, 2)]))
        self.assertEqual(raise_tracks(4, 0, [0, 0, 9, 0], [("z", 1, 3, 12)]), ([0, 1, 10, 1], [
            ("z", 1, 1), ("z", 2, 1), ("z", 3, 1)]))

    def test_alike_is_dealt_however_the_columns_differ(self):
        self.assertEqual(raise_tracks(2, 0, [10, 0], [("z", 0, 2, 15)]), ([13, 2], [("z", 0, 3), ("z", 1, 2)]))

    def test_gaps_within(self):
        for amount, due in ((6, ([1, 1, 0], [])), (7, ([2, 1, 0], [("z", 0, 1)])), (5, ([1, 1, 0], []))):
            self.assertEqual(raise_tracks(3, 2, [1, 1, 0], [("z", 0, 3, amount)]), due)
        self.assertEqual(raise_tracks(3, 1000, [0, 0, 0], [("z", 1, 2, 1001)]), ([0, 1, 0], [("z", 1, 1)]))
        self.assertEqual(raise_tracks(3, 1000, [0, 0, 0], [("z", 0, 3, 2000)]), ([0, 0, 0], []))

    def test_what_is_held_already_raises_nothing(self):
        self.assertEqual(raise_tracks(2, 0, [3, 4], [("a", 0, 2, 7)]), ([3, 4], []))
        self.assertEqual(raise_tracks(2, 0, [3, 4], [("a", 0, 2, 8)]), ([4, 4], [("a", 0, 1)]))
        self.assertEqual(raise_tracks(2, 0, [0, 0], [("a", 0, 2, 7), ("b", 0, 1, 3), ("c", 1, 1, 4)]), ([3, 4], []))

    def test_those_that_span_fewer_first(self):
        asks = [("a", 0, 3, 9), ("z", 1, 2, 6)]
        due = ([1, 4, 4], [("z", 1, 3), ("z", 2, 3), ("a", 0, 1), ("a", 1, 1), ("a", 2, 1)])
        for order in itertools.permutations(asks):
            self.assertEqual(raise_tracks(3, 0, [0, 0, 0], list(order)), due)

    def test_of_as_many_the_lesser_name_first(self):
        asks = [("b", 0, 2, 5), ("ab", 1, 2, 5)]
        due = ([1, 4, 2], [("ab", 1, 3), ("ab", 2, 2), ("b", 0, 1), ("b", 1, 1)])
        for order in itertools.permutations(asks):
            self.assertEqual(raise_tracks(3, 0, [0, 0, 0], list(order)), due)
        other = [("a", 0, 2, 4), ("ab", 1, 2, 5)]
        self.assertEqual(raise_tracks(3, 0, [0, 0, 0], other), (
            [2, 4, 1], [("a", 0, 2), ("a", 1, 2), ("ab", 1, 2), ("ab", 2, 1)]))

    def test_one_column_alone_is_ahead_of_all_others_whatever_its_name(self):
        for order in itertools.permutations([("a", 0, 2, 5), ("z", 1, 1, 4), ("m", 0, 1, 1)]):
            self.assertEqual(raise_tracks(2, 0, [0, 0], list(order)), ([1, 4], []))

    def test_twelve_columns(self):
        self.assertEqual(raise_tracks(12, 1, [0] * 12, [("a", 0, 12, 30)]),
                         ([2] * 7 + [1] * 5, [("a", column, 2 if column < 7 else 1) for column in range(12)]))

    def test_sixty_rows(self):
        told = raise_tracks(60, 0, [0] * 60, [("a", 48, 12, 5), ("b", 0, 12, 13), ("c", 59, 1, 2)])
        self.assertEqual(told[0], [2] + [1] * 11 + [0] * 36 + [1, 1, 1] + [0] * 8 + [2])
        self.assertEqual(told[1][:3], [("a", 48, 1), ("a", 49, 1), ("a", 50, 1)])
        self.assertEqual(told[1][3:5], [("b", 0, 2), ("b", 1, 1)])
        whole = raise_tracks(60, 1000, [0] * 60, [("a", 0, 60, 59 * 1000 + 61)])
        self.assertEqual(whole[0], [2] + [1] * 59)
        self.assertEqual([raised[1] for raised in whole[1]], list(range(60)))

    def test_cells_left_go_by_numbers_not_by_their_texts(self):
        # As texts without a nought ahead 10 and 11 would come before 9.
        self.assertEqual(raise_tracks(12, 0, [0] * 12, [("a", 8, 4, 2)])[1], [("a", 8, 1), ("a", 9, 1)])

    def test_great_numbers(self):
        most = 10 ** 9
        self.assertEqual(raise_tracks(3, 0, [0, 0, 0], [("a", 0, 3, most)])[0], [333333334, 333333333, 333333333])
        self.assertEqual(raise_tracks(2, 1000, [most, 0], [("a", 0, 2, most)]), ([most, 0], []))

    def test_somewhat_beyond(self):
        self.assertEqual(raise_tracks(110, 0, [1] * 110, [("a", 98, 12, 14)])[0], [1] * 98 + [2, 2] + [1] * 10)

    def test_every_small_case_cell_by_cell(self):
        spans = [(0, 1), (1, 1), (0, 2), (1, 2), (0, 3)]
        for floor in itertools.product((0, 2), repeat=3):
            for (one, two), gap in itertools.product(itertools.product(spans, repeat=2), (0, 1)):
                for amounts in itertools.product((0, 1, 3, 5), repeat=2):
                    asks = [("b",) + one + amounts[:1], ("a",) + two + amounts[1:]]
                    self.judged(3, gap, list(floor), asks, tracks_by_cells)
                    self.judged(3, gap, list(floor), asks, tracks_by_deals)

    def test_greater_cases(self):
        chance = random.Random(6)
        lacking = 0
        for number in range(1500):
            many = chance.choice((0, 1, 2, 3, 5, 5, 12, 12, 13, 60))
            asks = some_asks(chance, many, chance.randint(0, 12), chance.choice((9, 90, 10 ** 6)))
            floor = [chance.choice((0, 0, 1, chance.randint(0, 5))) for _ in range(many)]
            gap = chance.choice((0, 0, 0, 1, 2, 1000))
            self.judged(many, gap, floor, asks, tracks_by_deals)
            shuffled = chance.sample(asks, len(asks))
            self.assertEqual(raise_tracks(many, gap, floor, shuffled), raise_tracks(many, gap, floor, asks))
            lacking += len(raise_tracks(many, gap, floor, asks)[1]) > 5
        self.assertGreater(lacking, 150)

    def test_handed_in_and_told(self):
        floor, asks = [1, 0, 2], [("b", 0, 3, 9), ("a", 1, 1, 3), ("c", 0, 2, 7)]
        handed = copy.deepcopy((floor, asks))
        told = raise_tracks(3, 1, floor, asks)
        before = copy.deepcopy(told)
        self.assertEqual((floor, asks), handed)
        told[0].clear()
        told[1].append(("z", 0, 1))
        again = raise_tracks(3, 1, floor, asks)
        self.assertEqual(again, before)
        floor.clear()
        asks.clear()
        self.assertEqual(again, before)
        unraised = [4, 5]
        raise_tracks(2, 0, unraised, [])[0].append(6)
        self.assertEqual(unraised, [4, 5])


class Asked(unittest.TestCase):
    def test_no_parts(self):
        for columns, gap in ((1, 0), (12, 1000)):
            box = table("top", columns, [], gap=gap)
            self.assertEqual((table_wide(box, {}), table_high(box, {})), ((0, 0, 0), (0, 0, 0)))
            self.assertEqual(columns_of(box, {}), ([0] * columns, [0] * columns, []))
            self.assertEqual(rows_of(box, {}), ([], [], []))

    def test_one_part(self):
        box = table("top", 1, [(1, 1)], leaf("a"), gap=9)
        self.assertEqual(table_wide(box, {"a": (2, 5, 7)}), (2, 5, 10 ** 9))
        self.assertEqual(table_high(box, {"a": (0, 3, 3)}), (0, 3, 10 ** 9))

    def test_columns_without_parts_and_their_gaps(self):
        box = table("top", 4, [(1, 1)], leaf("a"), gap=3)
        self.assertEqual(table_wide(box, {"a": (2, 5, 7)}), (11, 14, 10 ** 9))
        self.assertEqual(table_high(box, {"a": (2, 5, 7)}), (2, 5, 10 ** 9))

    def test_the_greatest_of_each_column_and_row(self):
        box = table("top", 2, [(1, 1)] * 4, *leaves(4), gap=1)
        measures = dict(zip(names_from(4), ((1, 8, 9), (3, 4, 9), (2, 2, 9), (0, 7, 9))))
        self.assertEqual(columns_of(box, measures), ([2, 3], [8, 7], []))
        self.assertEqual(table_wide(box, measures), (6, 16, 10 ** 9))
        self.assertEqual(rows_of(box, measures), ([3, 2], [8, 7], []))
        self.assertEqual(table_high(box, measures), (6, 16, 10 ** 9))

    def test_leasts_are_raised_first_and_then_wishes(self):
        box = table("top", 2, [(1, 1), (1, 1), (2, 1)], leaf("a"), leaf("b"), leaf("c"))
        measures = {"a": (1, 2, 9), "b": (0, 0, 9), "c": (6, 12, 12)}
        # The leasts come to 4 and 2, the wishes are raised to these, and then to 12.
        raises = [("c", 0, 3), ("c", 1, 2), ("c", 0, 3), ("c", 1, 3)]
        self.assertEqual(columns_of(box, measures), ([4, 2], [7, 5], raises))
        self.assertEqual(table_wide(box, measures), (6, 12, 10 ** 9))

    def test_wishes_are_no_less_than_the_raised_leasts(self):
        box = table("top", 2, [(1, 1), (1, 1), (2, 1)], leaf("a"), leaf("b"), leaf("c"))
        measures = {"a": (0, 9, 9), "b": (0, 0, 9), "c": (8, 8, 8)}
        self.assertEqual(columns_of(box, measures), ([4, 4], [9, 4], [("c", 0, 4), ("c", 1, 4)]))

    def test_rows_spanned(self):
        box = table("top", 2, [(1, 3), (1, 1), (1, 2)], leaf("a"), leaf("b"), leaf("c"), gap=1)
        measures = {"a": (10, 12, 20), "b": (1, 1, 1), "c": (4, 4, 4)}
        self.assertEqual(rows_of(box, measures), ([3, 3, 2], [4, 4, 2], [
            ("c", 1, 2), ("c", 2, 1), ("a", 0, 2), ("a", 1, 1), ("a", 2, 1), ("a", 0, 1), ("a", 1, 1)]))
        self.assertEqual(table_high(box, measures), (10, 12, 10 ** 9))
        self.assertEqual(columns_of(box, measures), ([10, 4], [12, 4], []))

    def test_a_side_does_not_matter(self):
        for box, measures in CASES[:100]:
            other = table("top", box[3][0], box[3][3], *box[4], gap=box[3][1], side="right")
            self.assertEqual(columns_of(other, measures), columns_of(box, measures))

    def test_sixty_rows(self):
        box = table("top", 1, [(1, 12)] * 5, *leaves(5), gap=1)
        measures = {name: (13, 14, 15) for name in names_from(5)}
        told = rows_of(box, measures)
        self.assertEqual(told[:2], (([1, 1] + [0] * 10) * 5, ([2, 1] + [0] * 10) * 5))
        self.assertEqual(told[2][9], ("nae", 49, 1))
        self.assertEqual(told[2][10:], [(name, 12 * number, 1) for number, name in enumerate(measures)])
        self.assertEqual(table_high(box, measures), (10 + 59, 15 + 59, 10 ** 9))

    def test_against_the_second_account(self):
        raised = 0
        for box, measures in CASES:
            self.assertEqual(columns_of(box, measures), table_tracks(box, measures, False), (box, measures))
            self.assertEqual(rows_of(box, measures), table_tracks(box, measures, True), (box, measures))
            self.assertEqual(table_wide(box, measures), table_asks(box, measures, False))
            self.assertEqual(table_high(box, measures), table_asks(box, measures, True))
            raised += len(columns_of(box, measures)[2]) > 3 and len(rows_of(box, measures)[2]) > 3
        self.assertGreater(raised, 100)

    def test_asked_by_kind(self):
        for box, measures in CASES[:100]:
            self.assertEqual(wide_asked(box, measures), table_asks(box, measures, False))
            self.assertEqual(high_asked(box, measures, None), table_asks(box, measures, True))

    def test_parts_have_room_for_what_they_ask(self):
        for box, measures in CASES:
            for told in (columns_of(box, measures), rows_of(box, measures)):
                self.assertTrue(all(least <= wish for least, wish in zip(told[0], told[1])))

    def test_handed_in_and_told(self):
        for box, measures in CASES[:60]:
            handed = copy.deepcopy((box, measures))
            before = copy.deepcopy((columns_of(box, measures), rows_of(box, measures)))
            for told in (columns_of(box, measures), rows_of(box, measures)):
                for some in told:
                    some.append(7)
            self.assertEqual((box, measures), handed)
            self.assertEqual((columns_of(box, measures), rows_of(box, measures)), before)


if __name__ == "__main__":
    unittest.main()
