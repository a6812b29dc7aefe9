"""The small checker of rows."""

from boxgalley.things import is_list_of, is_tuple_of, is_whole
from boxgalley.words import Setting


def is_triple(thing):
    return is_tuple_of(thing, 3) and all([is_whole(number) for number in thing])


def are_triples(thing):
    return isinstance(thing, list) and all([is_triple(triple) for triple in thing])


def is_entry(thing):
    return thing is None or (is_whole(thing) and thing >= 0)


def are_entries(thing, many):
    return is_list_of(thing, many) and all([is_entry(entry) for entry in thing])


def is_table(thing, many, wide):
    return is_list_of(thing, many) and all([are_entries(entries, wide) for entries in thing])


def triples_set(setting, many, triples):
    next_row = 0
    place = 0
    for row, start, till in triples:
        if not (next_row <= row < many and start == place and place < till <= setting.last):
            return False
        if not all([setting.may_be_empty(empty, place) for empty in range(next_row, row)]):
            return False
        if not setting.fits(row, start, till):
            return False
        next_row = row + 1
        place = till
    return place == setting.last


def total_cost(setting, triples, end):
    costs = {}
    for row, start, till in triples:
        costs[row] = setting.cost_at(row, start, till)
    return sum([costs.get(row, setting.empty_cost_at(row)) for row in range(end)])


def steps_held(setting, row, table):
    for start, number in enumerate(table[row]):
        if number is not None:
            for till, cost in setting.steps_at(row, start):
                told = table[row + 1][till]
                if told is None or told > number + cost:
                    return False
    return True


def ends_held(setting, row, entries, total, end):
    for start in range(setting.last):
        number = entries[start]
        if number is not None and setting.fits(row, start, setting.last):
            if number < total or (number == total and row < end):
                return False
    return True


def rows_shown(WORDS, JOINT, widths, many, triples, table):
    setting = Setting(WORDS, JOINT, widths)
    if not (are_triples(triples) and is_table(table, many + 1, setting.last + 1)):
        return False
    if not (triples_set(setting, many, triples) and table[0][0] == 0):
        return False
    end = triples[-1][0] if triples != [] else 0
    total = total_cost(setting, triples, end)
    for row in range(many):
        if not (steps_held(setting, row, table) and ends_held(setting, row, table[row], total, end)):
            return False
    return True
