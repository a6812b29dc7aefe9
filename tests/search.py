"""Words in rows by searching through all settings, without the program's own means."""

import random


def flat(words):
    return [(number, place, piece) for number, word in enumerate(words) for place, piece in enumerate(word)]


def joint_at(words, place):
    ends, total = [0], 0
    for word in words:
        total += len(word)
        ends.append(total)
    return place not in ends


def text_between(words, start, till):
    groups = {}
    for number, _, piece in flat(words)[start:till]:
        groups.setdefault(number, []).append(piece)
    return " ".join("".join(group) for group in groups.values()) + ("-" if joint_at(words, till) else "")


def width_of(widths, row):
    return widths[row] if row < len(widths) else widths[-1]


def cost_of(words, joint, widths, triple):
    row, start, till = triple
    lack = width_of(widths, row) - len(text_between(words, start, till))
    return lack * lack + (joint if joint_at(words, till) else 0)


def rows_from(words, joint, widths, row, place):
    """What may come at a place in a row, but a last triple: (place then, cost, triples)."""
    many = len(flat(words))
    width = width_of(widths, row)
    found = []
    if place < many and len(text_between(words, place, place + 1)) > width:
        found.append((place, width * width, ()))
    for till in range(place + 1, many):
        if len(text_between(words, place, till)) <= width:
            found.append((till, cost_of(words, joint, widths, (row, place, till)), ((row, place, till),)))
    return found


def all_ways(words, joint, widths, rows):
    """Every way to fill just so many rows without a last triple."""
    ways = [(0, 0, ())]
    for row in range(rows):
        ways = [(then, cost + more, triples + added) for place, cost, triples in ways
                for then, more, added in rows_from(words, joint, widths, row, place)]
    return ways


def all_settings(words, joint, widths, many):
    """Every setting of the words, as pairs (list of triples, cost)."""
    last = len(flat(words))
    if last == 0:
        return [([], 0)]
    return [(list(triples) + [(row, place, last)], cost) for row in range(many)
            for place, cost, triples in all_ways(words, joint, widths, row)
            if place < last and len(text_between(words, place, last)) <= width_of(widths, row)]


def best_of(settings):
    return min((cost, triples[-1][0] if triples else 0) for triples, cost in settings)


def searched_table(words, joint, widths, many):
    table = []
    for rows in range(many + 1):
        ways = all_ways(words, joint, widths, rows)
        table.append([min([cost for then, cost, _ in ways if then == place], default=None)
                      for place in range(len(flat(words)) + 1)])
    return table


def table_shows(words, joint, widths, many, table, cost, end):
    """The conditions of 30 on a table of the right form, for triples of this cost and last row."""
    last = len(flat(words))
    if table[0][0] != 0:
        return False
    for row in range(many):
        for place in range(last + 1):
            number = table[row][place]
            if number is None:
                continue
            for then, more, _ in rows_from(words, joint, widths, row, place):
                if table[row + 1][then] is None or table[row + 1][then] > number + more:
                    return False
            if place < last and len(text_between(words, place, last)) <= width_of(widths, row):
                if number < cost or (row < end and not number > cost):
                    return False
    return True


def some_words(chance):
    words = tuple(tuple("abcdef"[:chance.randint(1, 4)] for _ in range(chance.randint(1, 3)))
                  for _ in range(chance.randint(0, 3)))
    return words if len(flat(words)) <= 6 else words[:2]


def small_cases(many):
    """So many cases (words, joint, widths, many), always the same ones."""
    chance = random.Random(27)
    cases = []
    for _ in range(many):
        widths = [chance.choice((0, 0, 1, 2, 3, 4, 5, 6, 8)) for _ in range(chance.randint(0, 3))]
        widths.append(chance.randint(1, 9))
        cases.append((some_words(chance), chance.choice((0, 1, 3, 9, 50, 999)), widths, chance.randint(1, 5)))
    return cases
