"""The small checkers of pourings and of shares (2, 6, 8)."""

import ast
import copy
import itertools
import math
import pathlib
import unittest

from boxgalley import shares
from boxgalley.shares import common_of, pour, poured, rest_of, share, shared
from sharesearch import all_sizes, bent_levels, bent_sizes, pour_cases, poured_out, share_cases, shared_out

POURS = pour_cases(500, 4, 12) + pour_cases(100, 5, 10 ** 6)
SHARES = share_cases(1500, 4, 8) + share_cases(100, 5, 10 ** 6)
SMALL_LEVELS = [None] + list(itertools.product(range(-1, 7), range(-1, 5)))


def named_calls(function, tree):
    """The names of all functions of the module that this one calls, in whatever many steps."""
    bodies = {node.name: node for node in tree.body if isinstance(node, ast.FunctionDef)}
    found, waiting = {function}, [function]
    while waiting:
        for node in ast.walk(bodies[waiting.pop()]):
            if isinstance(node, ast.Name) and node.id in bodies and node.id not in found:
                found.add(node.id)
                waiting.append(node.id)
    return found, [bodies[name] for name in found]


class Pourings(unittest.TestCase):
    def test_what_pour_tells(self):
        for case in POURS:
            self.assertIs(poured(*case, *pour(*case)), True, case)

    def test_all_sizes_and_levels_of_small_pourings(self):
        count = {True: 0, False: 0}
        for weights, caps in itertools.product(all_sizes("ba", 0, 2), all_sizes("ab", 0, 3)):
            for room in range(sum(caps.values()) + 2):
                due = poured_out(room, weights, caps)
                for sizes in all_sizes("ab", -1, 4):
                    for level in SMALL_LEVELS:
                        right = (sizes, level) == due
                        self.assertIs(poured(room, weights, caps, sizes, level), right,
                                      (room, weights, caps, sizes, level))
                        count[right] += 1
        self.assertGreater(count[True], 400, count)

    def test_bent_sizes(self):
        for case in POURS:
            sizes, level = pour(*case)
            for other in bent_sizes(sizes):
                self.assertIs(poured(*case, other, level), False, (case, other, level))

    def test_bent_levels(self):
        for case in POURS:
            sizes, level = pour(*case)
            for other in bent_levels(level):
                self.assertIs(poured(*case, sizes, other), False, (case, sizes, other))

    def test_a_cell_moved_to_another_rest(self):
        case = (2, {"a": 1, "b": 1, "c": 1}, {"a": 9, "b": 9, "c": 9})
        self.assertIs(poured(*case, {"a": 1, "b": 1, "c": 0}, (2, 3)), True)
        self.assertIs(poured(*case, {"a": 1, "b": 0, "c": 1}, (2, 3)), False)
        self.assertIs(poured(*case, {"a": 0, "b": 1, "c": 1}, (2, 3)), False)
        self.assertIs(poured(*case, {"a": 2, "b": 0, "c": 0}, (2, 3)), False)
        case = (1, {"a": 1, "z": 2}, {"a": 9, "z": 9})
        self.assertIs(poured(*case, {"a": 0, "z": 1}, (1, 3)), True)
        self.assertIs(poured(*case, {"a": 1, "z": 0}, (1, 3)), False)

    def test_a_size_more_or_less(self):
        case = (5, {"a": 1, "b": 1}, {"a": 9, "b": 9})
        for sizes, due in (({"a": 3, "b": 2}, True), ({"a": 3, "b": 3}, False), ({"a": 2, "b": 2}, False),
                           ({"a": 2, "b": 3}, False), ({"a": 5, "b": 0}, False)):
            self.assertIs(poured(*case, sizes, (5, 2)), due)

    def test_a_name_of_weight_nought_gets_nothing(self):
        case = (3, {"a": 0, "b": 1}, {"a": 5, "b": 4})
        self.assertIs(poured(*case, {"a": 0, "b": 3}, (3, 1)), True)
        for size in (-1, 1, 5):
            self.assertIs(poured(*case, {"a": size, "b": 3}, (3, 1)), False)

    def test_lowest_terms(self):
        case = (4, {"a": 2, "b": 4}, {"a": 9, "b": 9})
        for level, due in (((2, 3), True), ((4, 6), False), ((10, 15), False), ((-2, -3), False), (None, False)):
            self.assertIs(poured(*case, {"a": 1, "b": 3}, level), due)
        for level, due in (((0, 1), True), ((0, 2), False), ((0, 0), False), ((0, -1), False), (None, False)):
            self.assertIs(poured(0, {"a": 1}, {"a": 2}, {"a": 0}, level), due)
        great = 10 ** 9 + 7
        self.assertIs(poured(great, {"a": 10 ** 6}, {"a": 10 ** 10}, {"a": great}, (great, 10 ** 6)), True)
        self.assertIs(poured(great, {"a": 10 ** 6}, {"a": 10 ** 10}, {"a": great}, (7 * great, 7 * 10 ** 6)), False)

    def test_none_for_a_level_and_a_level_for_none(self):
        self.assertIs(poured(7, {"a": 1, "b": 2}, {"a": 3, "b": 4}, {"a": 3, "b": 4}, None), True)
        for level in ((3, 1), (2, 1), (0, 1), (0, 0)):
            self.assertIs(poured(7, {"a": 1, "b": 2}, {"a": 3, "b": 4}, {"a": 3, "b": 4}, level), False)
        self.assertIs(poured(6, {"a": 1, "b": 2}, {"a": 3, "b": 4}, {"a": 2, "b": 4}, (2, 1)), True)
        self.assertIs(poured(6, {"a": 1, "b": 2}, {"a": 3, "b": 4}, {"a": 2, "b": 4}, None), False)

    def test_no_names(self):
        for room in (0, 5):
            self.assertIs(poured(room, {}, {}, {}, None), True)
            for level in ((0, 1), (1, 1), (5, 1), (0, 0)):
                self.assertIs(poured(room, {}, {}, {}, level), False)


class Shares(unittest.TestCase):
    def test_what_share_tells(self):
        for case in SHARES:
            self.assertIs(shared(*case, *share(*case)), True, case)

    def test_all_sizes_of_small_shares(self):
        bounds = [item for item in itertools.product(range(3), repeat=3) if item == tuple(sorted(item))]
        some = [bound + rest for bound in bounds for rest in ((0, 0, 1), (1, 0, 0), (2, 3, 0))]
        for one, other in itertools.product(some, some[::2]):
            for room in range(5):
                items = {"b": one, "a": other}
                due, over, levels = shared_out(room, items)
                for sizes in all_sizes("ab", -1, 3):
                    for extra in {over, room - sum(sizes.values())}:
                        self.assertIs(shared(room, items, sizes, extra, levels), (sizes, extra) == (due, over),
                                      (room, items, sizes, extra, levels))

    def test_bent_sizes(self):
        for room, items in SHARES:
            due, over, levels = share(room, items)
            for sizes in bent_sizes(due):
                for extra in {over, room - sum(sizes.values())}:
                    self.assertIs(shared(room, items, sizes, extra, levels), False,
                                  (room, items, sizes, extra, levels))

    def test_bent_over(self):
        for room, items in SHARES:
            sizes, over, levels = share(room, items)
            for other in {0, 1, -1, over + 1, over - 1, -over, room, room + 1} - {over}:
                self.assertIs(shared(room, items, sizes, other, levels), False, (room, items, other))

    def test_bent_levels(self):
        for case in SHARES:
            sizes, over, levels = share(*case)
            for place, level in enumerate(levels):
                for other in bent_levels(level):
                    bent = levels[:place] + [other] + levels[place + 1:]
                    self.assertIs(shared(*case, sizes, over, bent), False, (case, bent))

    def test_levels_more_or_less_or_in_another_order(self):
        turned = 0
        for case in SHARES:
            sizes, over, levels = share(*case)
            bents = [[]] + [levels[:place] + levels[place + 1:] for place in range(len(levels))]
            bents += [levels[:place] + [more] + levels[place:] for place in range(len(levels) + 1)
                      for more in [None, (0, 1), (1, 1)] + levels]
            if levels[::-1] != levels:
                bents.append(levels[::-1])
                turned += 1
            for bent in bents:
                self.assertIs(shared(*case, sizes, over, bent), False, (case, bent))
        self.assertGreater(turned, 20)

    def test_ranks_not_come_to_have_their_leasts(self):
        items = {"a": (4, 4, 4, 1, 1, 0), "b": (3, 3, 3, 1, 1, 1), "c": (3, 3, 3, 1, 1, 1)}
        self.assertIs(shared(8, items, {"a": 2, "b": 3, "c": 3}, 0, [(2, 1)]), True)
        self.assertIs(shared(8, items, {"a": 2, "b": 4, "c": 2}, 0, [(2, 1)]), False)
        self.assertIs(shared(8, items, {"a": 2, "b": 3, "c": 3}, 0, [(2, 1), (0, 1)]), False)

    def test_two_pourings(self):
        items = {"a": (1, 7, 9, 0, 1, 0), "b": (2, 8, 9, 0, 0, 0), "c": (0, 4, 4, 0, 0, 0)}
        self.assertIs(shared(12, items, {"a": 1, "b": 7, "c": 4}, 0, [None, (1, 2)]), True)
        for sizes in ({"a": 2, "b": 6, "c": 4}, {"a": 1, "b": 8, "c": 3}, {"a": 0, "b": 8, "c": 4}):
            self.assertIs(shared(12, items, sizes, 0, [None, (1, 2)]), False)
        for levels in ([None], [(1, 2)], [(6, 1), (1, 2)], [None, None], [None, (1, 2), None], []):
            self.assertIs(shared(12, items, {"a": 1, "b": 7, "c": 4}, 0, levels), False)

    def test_no_items(self):
        self.assertIs(shared(5, {}, {}, 5, [None]), True)
        for over, levels in ((4, [None]), (0, [None]), (5, []), (5, [(0, 1)]), (5, [None, None])):
            self.assertIs(shared(5, {}, {}, over, levels), False)


class LookersAlone(unittest.TestCase):
    def test_rests_and_common_measures_without_dividing(self):
        numbers = list(range(1, 40)) + [2 ** 20, 3 ** 20, 10 ** 9, 10 ** 9 + 7]
        for one, other in itertools.product([0] + numbers, numbers):
            self.assertEqual(rest_of(one, other), one % other)
            self.assertEqual(common_of(one, other), math.gcd(one, other))

    def test_checkers_deal_pour_and_divide_nothing(self):
        tree = ast.parse(pathlib.Path(shares.__file__).read_text(encoding="utf-8"))
        for function in ("poured", "shared"):
            names, bodies = named_calls(function, tree)
            self.assertEqual(names & {"deal", "pour", "share", "level_of"}, set())
            divides = [node for body in bodies for node in ast.walk(body) if isinstance(node, (ast.FloorDiv, ast.Mod))]
            self.assertEqual(divides, [], function)
            self.assertFalse(any(isinstance(node, ast.Name) and node.id == "divmod"
                                 for body in bodies for node in ast.walk(body)))

    def test_nothing_handed_in_is_changed(self):
        for looks, tells, cases in ((poured, pour, POURS), (shared, share, SHARES)):
            for case in cases[:300]:
                handed = copy.deepcopy(case + tells(*case))
                before = copy.deepcopy(handed)
                looks(*handed)
                self.assertEqual(handed, before)


if __name__ == "__main__":
    unittest.main()
