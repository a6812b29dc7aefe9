"""The small checker of floats (2, 33)."""

import copy
import itertools
import unittest

from boxgalley.flowlook import stood
from boxgalley.flows import stand_floats
from floatsearch import edges, look_rows, paper_shows, small_floats, stand_by_rows

CASES = small_floats(600, 12, 10) + small_floats(300, 5, 8)
STOOD = [(case, stand_by_rows(*case)) for case in CASES if not isinstance(stand_by_rows(*case), str)]
FLOATS = [("a", "left", 4, 2), ("b", "right", 4, 5), ("c", "left", 2, 3), ("d", "left", 9, 1)]
STANDING = [("a", 0, 0, 4, 2), ("b", 6, 0, 4, 5), ("c", 4, 0, 2, 3), ("d", 0, 5, 9, 1)]
PAPERS = [[], [], [], [(3, "c", "b"), (5, "", "b")]]
THINGS = (
    None, True, False, 0, 1, -1, 10 ** 30, "", "a", "ab", (), [], {}, [[]], [()], [None], [True], [0], ["a"], [{}],
    [[], []], ("a", 0, 0, 1, 1), [("a", 0, 0, 1, 1)], [["a", 0, 0, 1, 1]], [("a", 0, 0, 1)], [("a", 0, 0, 1, 1, 1)],
    (("a", 0, 0, 1, 1),), [("a", False, False, True, True)], [("a", "0", "0", "1", "1")], [(None, 0, 0, 1, 1)],
    [[(1, "", "")]], [[(1, "", ""), (2, "", "")]], [((1, "", ""),)], [[[1, "", ""]]], [[(1, "")]], [[(1, "", "", "")]],
    [[("1", "", "")]], [[(True, "", "")]], [[(1, None, None)]], [[(1, [], {})]], [[(1.0, "", "")]], 1.5,
    [("a", 0.0, 0, 1, 1)], {"a": 1}, {0: ("a", 0, 0, 1, 1)}, object(), [object()], [[object()]], b"a", float("nan"),
    frozenset(), range(1), [range(5)], "a" * 5, ["aaaaa"],
)


def bent_ones(placed):
    name, x, y, w, h = placed
    for by in (-2, -1, 1, 2, 10 ** 9):
        yield from ((name, x + by, y, w, h), (name, x, y + by, w, h), (name, x, y, w + by, h), (name, x, y, w, h + by))
    yield from ((name + "a", x, y, w, h), ("", x, y, w, h), (name, y - 1, x - 1, w, h), (name, x, y, w, h, 0),
                (name, x, y, w), [name, x, y, w, h], (None, x, y, w, h), None)


class Stood(unittest.TestCase):
    def test_an_ordinary_one(self):
        self.assertEqual(stand_floats(10, FLOATS), (STANDING, PAPERS))
        self.assertIs(stood(10, FLOATS, STANDING, PAPERS), True)

    def test_what_stand_floats_tells(self):
        for case, _ in STOOD:
            self.assertIs(stood(*case, *stand_floats(*case)), True, case)

    def test_no_floats(self):
        self.assertIs(stood(5, [], [], []), True)
        self.assertIs(stood(0, [], [], []), True)
        for one, other in (([], [[]]), ([()], []), ((), []), ([], ()), (None, []), ([], None)):
            self.assertIs(stood(5, [], one, other), False)

    def test_floats_wider_than_the_room_stand_nowhere(self):
        floats = [("a", "left", 6, 1)]
        for standing in ([("a", 0, 0, 6, 1)], [("a", -1, 0, 6, 1)], [("a", 0, 1, 6, 1)], []):
            for papers in ([[]], [[(1, "", "")]], []):
                self.assertIs(stood(5, floats, standing, papers), False)
        floats = [("b", "left", 1, 1), ("a", "left", 6, 1)]
        self.assertIs(stood(5, floats, [("b", 0, 0, 1, 1), ("a", 0, 1, 6, 1)], [[], [(1, "b", "")]]), False)


class OtherStandings(unittest.TestCase):
    def test_each_float_told_otherwise(self):
        for case, standing in STOOD[:300]:
            papers = stand_floats(*case)[1]
            for number, placed in enumerate(standing):
                for other in bent_ones(placed):
                    bent = standing[:number] + [other] + standing[number + 1:]
                    self.assertIs(stood(*case, bent, papers), False, (case, bent))

    def test_more_or_less_or_in_another_order(self):
        for case, standing in STOOD[:300]:
            papers = stand_floats(*case)[1]
            bents = [standing[:-1], standing[1:], standing[::-1]] if len(standing) > 1 else []
            for bent in bents + [standing + [("zz", 0, 99, 1, 1)], standing + standing[:1] if standing else [None]]:
                self.assertIs(stood(*case, bent, papers), False, (case, bent))
                self.assertIs(stood(*case, bent, papers + [[]]), False, (case, bent))

    def test_a_later_row_with_a_paper_made_up_for_it(self):
        floats = [("a", "left", 3, 4), ("b", "left", 3, 1)]
        self.assertIs(stood(6, floats, [("a", 0, 0, 3, 4), ("b", 3, 0, 3, 1)], [[], []]), True)
        for row in (1, 2, 4, 5):
            for left, right in itertools.product(("", "a", "b"), repeat=2):
                for x in (0, 3):
                    standing = [("a", 0, 0, 3, 4), ("b", x, row, 3, 1)]
                    self.assertIs(stood(6, floats, standing, [[], [(row, left, right)]]), False)
                    self.assertIs(stood(6, floats, standing, [[], []]), False)

    def test_an_earlier_row_at_which_it_does_not_fit(self):
        floats = [("a", "left", 6, 3), ("b", "left", 5, 2)]
        self.assertIs(stood(10, floats, [("a", 0, 0, 6, 3), ("b", 0, 3, 5, 2)], [[], [(3, "a", "")]]), True)
        for x in (0, 5, 6):
            self.assertIs(stood(10, floats, [("a", 0, 0, 6, 3), ("b", x, 0, 5, 2)], [[], []]), False)
            self.assertIs(stood(10, floats, [("a", 0, 0, 6, 3), ("b", x, 2, 5, 2)], [[], [(2, "a", "")]]), False)
        count = 0
        for (width, floats), standing in STOOD:
            papers = stand_floats(width, floats)[1]
            if papers and papers[-1]:
                name, side, wide, high = floats[-1]
                for many in range(len(papers[-1])):
                    row = papers[-1][many - 1][0] if many else look_rows(standing)[-1]
                    left, right = edges(width, floats, standing[:-1], range(row, row + high))
                    placed = (name, left if side == "left" else right - wide, row, wide, high)
                    told = (standing[:-1] + [placed], papers[:-1] + [papers[-1][:many]])
                    self.assertIs(stood(width, floats, *told), False, (width, floats, told))
                    count += 1
        self.assertGreater(count, 100)

    def test_at_the_other_side_or_away_from_the_edge(self):
        self.assertIs(stood(9, [("a", "left", 3, 4)], [("a", 0, 0, 3, 4)], [[]]), True)
        for x in (-1, 1, 6, 9):
            self.assertIs(stood(9, [("a", "left", 3, 4)], [("a", x, 0, 3, 4)], [[]]), False)
        self.assertIs(stood(9, [("a", "right", 3, 4)], [("a", 6, 0, 3, 4)], [[]]), True)
        for x in (0, 5, 7, 9):
            self.assertIs(stood(9, [("a", "right", 3, 4)], [("a", x, 0, 3, 4)], [[]]), False)


class OtherPapers(unittest.TestCase):
    def check(self, case, standing, papers, number, paper):
        due = paper_shows(*case, standing, number, paper)
        told = papers[:number] + [paper] + papers[number + 1:]
        self.assertIs(stood(*case, standing, told), due, (case, standing, told))
        return due

    def test_every_paper_of_one_and_two_triples(self):
        count = {True: 0, False: 0}
        chosen = [one for one in STOOD if 2 <= len(one[1]) <= 3 and one[1][-1][2] > one[1][-2][2]]
        for case, standing in chosen[:35]:
            papers = stand_floats(*case)[1]
            number = len(standing) - 1
            look = look_rows(standing)[number]
            names = [""] + [thing[0] for thing in case[1]]
            triples = list(itertools.product(range(max(0, look - 1), standing[number][2] + 2), names, names))
            for paper in [[]] + [[triple] for triple in triples]:
                count[self.check(case, standing, papers, number, paper)] += 1
            for paper in itertools.product(triples, repeat=2):
                count[self.check(case, standing, papers, number, list(paper))] += 1
        self.assertGreater(min(count.values()), 100, count)

    def test_each_triple_told_otherwise(self):
        count = {True: 0, False: 0}
        for case, standing in STOOD:
            papers = stand_floats(*case)[1]
            names = ["", "zz"] + [thing[0] for thing in case[1]]
            for number, paper in enumerate(papers):
                for place, (till, left, right) in enumerate(paper):
                    others = [(till + by, left, right) for by in (-2, -1, 1, 2)]
                    others += [(till, name, right) for name in names] + [(till, left, name) for name in names]
                    for other in others + [(till, right, left), (-till, left, right)]:
                        bent = paper[:place] + [other] + paper[place + 1:]
                        count[self.check(case, standing, papers, number, bent)] += 1
                    count[self.check(case, standing, papers, number, paper[:place] + paper[place + 1:])] += 1
                    count[self.check(case, standing, papers, number, paper + [paper[place]])] += 1
                    split = paper[:place] + [(till - 1, left, right)] + paper[place:]
                    count[self.check(case, standing, papers, number, split)] += 1
        self.assertGreater(min(count.values()), 1000, count)

    def test_a_stretch_may_be_told_in_several_triples(self):
        for paper, due in (([(1, "c", "b"), (3, "c", "b"), (5, "", "b")], True),
                           ([(2, "a", "b"), (3, "c", "b"), (5, "", "b")], True),
                           ([(3, "a", "b"), (5, "", "b")], False), ([(5, "", "b")], True), ([(5, "c", "b")], False),
                           ([(3, "c", ""), (5, "", "b")], True), ([(3, "c", "b"), (4, "", "b")], False),
                           ([(3, "c", "b"), (3, "", "b"), (5, "", "b")], False), ([(3, "c", "b")], False), ([], False),
                           ([(0, "c", "b"), (3, "c", "b"), (5, "", "b")], False), ([(5, "b", "")], False),
                           ([(5, "", "")], False), ([(5, "", "d")], False), ([(5, "", "e")], False),
                           ([(5, "", "b"), (6, "", "b")], False)):
            self.assertIs(stood(10, FLOATS, STANDING, PAPERS[:3] + [paper]), due, paper)

    def test_less_than_w_between_them(self):
        floats = [("a", "left", 3, 1), ("b", "right", 3, 9), ("c", "left", 4, 1), ("d", "left", 5, 1)]
        standing = [("a", 0, 0, 3, 1), ("b", 7, 0, 3, 9), ("c", 3, 0, 4, 1), ("d", 0, 1, 5, 1)]
        for left, due in (("c", True), ("a", True), ("", False)):
            self.assertIs(stood(10, floats, standing, [[], [], [], [(1, left, "b")]]), due)
        for left, due in (("c", True), ("a", False), ("", False)):
            self.assertIs(stood(10, floats, standing, [[], [], [], [(1, left, "")]]), due)

    def test_papers_more_or_less(self):
        for papers in (PAPERS[:3], PAPERS[1:], PAPERS + [[]], [], [[]] * 4, PAPERS[::-1]):
            self.assertIs(stood(10, FLOATS, STANDING, papers), False)
        for number in range(3):
            for triple in ((0, "", ""), (1, "", ""), (1, "a", "b"), (5, "", "b"), (-1, "", "")):
                papers = copy.deepcopy(PAPERS)
                papers[number].append(triple)
                self.assertIs(stood(10, FLOATS, STANDING, papers), False)


class WhateverIsHandedIn(unittest.TestCase):
    def test_things(self):
        floats = [("a", "left", 1, 1)]
        for standing, papers in itertools.product(THINGS, repeat=2):
            due = isinstance(standing, list) and isinstance(papers, list) and papers == [[]] and (
                standing == [("a", 0, 0, 1, 1)] and [type(each) for each in standing[0][1:]] == [int] * 4)
            self.assertIs(stood(1, floats, standing, papers), due, (standing, papers))

    def test_things_within(self):
        for thing in THINGS:
            for number in range(4):
                self.assertIs(stood(10, FLOATS, STANDING[:number] + [thing] + STANDING[number + 1:], PAPERS), False)
                due = thing == [] and isinstance(thing, list) and number < 3
                self.assertIs(stood(10, FLOATS, STANDING, PAPERS[:number] + [thing] + PAPERS[number + 1:]), due)
            for place in range(5):
                bent = STANDING[3][:place] + (thing,) + STANDING[3][place + 1:]
                due = type(thing) is type(STANDING[3][place]) and thing == STANDING[3][place]
                self.assertIs(stood(10, FLOATS, STANDING[:3] + [bent], PAPERS), due, bent)
            for place in range(3):
                bent = PAPERS[3][1][:place] + (thing,) + PAPERS[3][1][place + 1:]
                due = place == 1 and isinstance(thing, str) and thing == ""
                self.assertIs(stood(10, FLOATS, STANDING, PAPERS[:3] + [[PAPERS[3][0], bent]]), due, bent)
                self.assertIs(stood(10, FLOATS, STANDING, PAPERS[:3] + [[PAPERS[3][0], thing]]), False)

    def test_things_that_bear_no_comparing(self):
        class Odd:
            def __eq__(self, other):
                raise RuntimeError

            __hash__ = None

        odd = Odd()
        for standing in (odd, [odd], [(odd, 0, 0, 1, 1)], [("a", odd, 0, 1, 1)], [("a", 0, odd, 1, 1)],
                         [("a", 0, 0, odd, 1)], [("a", 0, 0, 1, odd)]):
            self.assertIs(stood(1, [("a", "left", 1, 1)], standing, [[]]), False)
        for paper in (odd, [odd], [(odd, "", "")], [(1, odd, "")], [(1, "", odd)]):
            self.assertIs(stood(1, [("a", "left", 1, 1)], [("a", 0, 0, 1, 1)], [paper]), False)
        self.assertIs(stood(1, [("a", "left", 1, 1)], [("a", 0, 0, 1, 1)], odd), False)

    def test_tuples_for_lists_and_lists_for_tuples(self):
        self.assertIs(stood(10, FLOATS, tuple(STANDING), PAPERS), False)
        self.assertIs(stood(10, FLOATS, STANDING, tuple(PAPERS)), False)
        self.assertIs(stood(10, FLOATS, [list(placed) for placed in STANDING], PAPERS), False)
        self.assertIs(stood(10, FLOATS, STANDING, [tuple(paper) for paper in PAPERS]), False)
        self.assertIs(stood(10, FLOATS, STANDING, [[list(each) for each in paper] for paper in PAPERS]), False)

    def test_truths_are_no_whole_numbers(self):
        floats = [("a", "left", 1, 1), ("b", "left", 1, 1)]
        told = stand_floats(1, floats)
        self.assertEqual(told, ([("a", 0, 0, 1, 1), ("b", 0, 1, 1, 1)], [[], [(1, "a", "")]]))
        self.assertIs(stood(1, floats, *told), True)
        self.assertIs(stood(1, floats, told[0], [[], [(True, "a", "")]]), False)
        for place in range(1, 5):
            other = told[0][1][:place] + (bool(told[0][1][place]),) + told[0][1][place + 1:]
            self.assertIs(stood(1, floats, [told[0][0], other], told[1]), False)

    def test_nothing_handed_in_is_changed(self):
        for (width, floats), _ in STOOD[:300]:
            handed = copy.deepcopy((floats, *stand_floats(width, floats)))
            before = copy.deepcopy(handed)
            stood(width, *handed)
            self.assertEqual(handed, before)


if __name__ == "__main__":
    unittest.main()
