"""What tables, words, flows and overs ask for, told once more by other means than the program's; and cases to try."""

import random

from floatsearch import stand_by_rows, stretch_list
from search import all_settings, best_of, flat, searched_table, text_between
from sharesearch import dealt
from treesearch import cells_of, flow, leaf, names_from, over, places_by_search, table

MILLION = 10 ** 6
LETTERS = "abcdefghijkl"


def number_name(number, many):
    """A column's letter, or a row's two figures."""
    return LETTERS[number] if many <= 12 else f"{number:02d}"


def raised(numbers, gap, needs):
    """Numbers raised in place by needs (name, columns, amount), each dealt by the fractions' account; the raises."""
    raises = []
    for name, columns, amount in sorted(needs, key=lambda need: (len(need[1]), need[0])):
        above = amount - sum(numbers[column] for column in columns) - gap * (len(columns) - 1)
        if above > 0:
            names = {number_name(column, len(numbers)): column for column in columns}
            for letter, cells in sorted(dealt(above, {letter: 1 for letter in names}).items()):
                numbers[names[letter]] += cells
                raises += [(name, names[letter], cells)] if cells else []
    return raises


def tracks_by_deals(many, gap, floor, asks):
    covers = {name: list(range(first, first + spanned)) for name, first, spanned, _ in asks}
    numbers = [max([least] + [ask[3] for ask in asks if covers[ask[0]] == [number]]) for number, least in
               zip(range(many), floor)]
    return numbers, raised(numbers, gap, [(ask[0], covers[ask[0]], ask[3]) for ask in asks if ask[2] > 1])


def tracks_by_cells(many, gap, floor, asks):
    """Cell by cell: each goes to the first of the columns that have got the fewest by this ask."""
    numbers, given = list(floor), {}
    for name, first, spanned, amount in sorted(asks, key=lambda ask: (ask[2], ask[0])):
        columns = range(first, first + spanned)
        while sum(numbers[column] for column in columns) + gap * (spanned - 1) < amount:
            fewest = min(columns, key=lambda column: given.get((name, column), 0))
            given[name, fewest] = given.get((name, fewest), 0) + 1
            numbers[fewest] += 1
    spans = {ask[0]: ask[2] for ask in asks}
    many_first = sorted(given.items(), key=lambda each: (spans[each[0][0]], each[0]))
    return numbers, [(name, column, cells) for (name, column), cells in many_first if spans[name] > 1]


def table_tracks(box, measures, down):
    """Leasts, wishes and raises of the columns, or of the rows, by the words of 22."""
    columns, gap, _, spans = box[3]
    covers = {}
    for part, place, span in zip(box[4], places_by_search(columns, spans), spans):
        covers[part[1]] = sorted({cell[0 if down else 1] for cell in cells_of(place, span)})
    many = max((cover[-1] + 1 for cover in covers.values()), default=0) if down else columns
    numbers = [[max([measures[name][which] for name, cover in covers.items() if cover == [number]], default=0)
                for number in range(many)] for which in (0, 1)]
    raises = []
    for which in (0, 1):
        if which == 1:
            numbers[1] = [max(pair) for pair in zip(*numbers)]
        needs = [(name, cover, measures[name][which]) for name, cover in covers.items() if len(cover) > 1]
        raises += raised(numbers[which], gap, needs)
    return numbers[0], numbers[1], raises


def table_asks(box, measures, down):
    if not box[4]:
        return (0, 0, 0)
    leasts, wishes, _ = table_tracks(box, measures, down)
    gaps = (len(leasts) - 1) * box[3][1]
    return (sum(leasts) + gaps, sum(wishes) + gaps, min(len(leasts) * 10 ** 9 + gaps, 10 ** 9))


def piece_lengths(said):
    return [len(text_between(said, place, place + 1)) for place in range(len(flat(said)))]


def words_asks(said):
    return (max(piece_lengths(said), default=0), len(text_between(said, 0, len(flat(said)))), MILLION)


def flow_asks(box, wides):
    sides, said, _ = box[3]
    least, wish, most = words_asks(said)
    for part in box[4]:
        least, wish = max(least, wides[part[1]][0]), wish + wides[part[1]][1]
    return (least, wish, most)


def flow_floats(box, width, wides, highs):
    """The width that it is laid in, and its floats."""
    laid = max(width, flow_asks(box, wides)[0], 1)
    floats = []
    for part, side in zip(box[4], box[3][0]):
        wide = min(wides[part[1]][1], laid) or 1
        floats.append((part[1], side, wide, highs[part[1]][1] or 1))
    return laid, floats


def flow_told(box, width, wides, highs):
    """What stands, and the rows that words are set in: (laid, floats, standing, widths, many, first row)."""
    laid, floats = flow_floats(box, width, wides, highs)
    standing = stand_by_rows(laid, floats)
    end = max((placed[2] + placed[4] for placed in standing), default=0)
    pieces = len(flat(box[3][1])) or 1
    if end > 60:
        return laid, floats, standing, [laid], pieces, end
    return laid, floats, standing, [wide for _, wide in stretch_list(laid, floats, standing)], end + pieces, 0


def words_by_search(said, joint, widths, many):
    """The least cost, the row of the last triple that goes with it, and the table."""
    return best_of(all_settings(said, joint, widths, many)), searched_table(said, joint, widths, many)


def some_measure(chance, top):
    return tuple(sorted(chance.choice((0, 1) + (chance.randint(0, top),) * 4) for _ in range(3)))


def some_said(chance, most):
    """Words of at most so many pieces."""
    said, left = [], chance.randint(0, most)
    while left:
        many = chance.randint(1, min(3, left))
        said.append(tuple("abcdef"[:chance.randint(1, 5)] for _ in range(many)))
        left -= many
    return tuple(said)


def table_cases(many):
    """So many tables with measures for their parts, always the same ones."""
    chance, cases = random.Random(22), []
    for number in range(many):
        columns, parts = chance.randint(1, 12 if number % 3 else 3), chance.randint(0, 9)
        spans = [(chance.randint(1, columns), chance.choice((1, 2, 2, 3, 12))) for _ in range(parts)]
        names = chance.sample(names_from(60), parts)
        box = table("top", columns, spans, *map(leaf, names), gap=chance.choice((0, 0, 1, 3, 1000)),
                    side=chance.choice(("left", "right")))
        top = chance.choice((9, 60, 60, MILLION))
        cases.append((box, {name: some_measure(chance, top) for name in names}))
    return cases


def flow_cases(many):
    """So many flows with a width and with measures for their parts, always the same ones."""
    chance, cases = random.Random(35), []
    for number in range(many):
        names = chance.sample(names_from(60), chance.randint(0, 5))
        box = flow("top", [chance.choice(("left", "right")) for _ in names], *map(leaf, names),
                   said=some_said(chance, 4), joint=chance.choice((0, 1, 5, 50, 999)))
        wides = {name: some_measure(chance, chance.choice((3, 12))) for name in names}
        highs = {name: some_measure(chance, 4) for name in names}
        if number % 4 == 0:
            highs.update({name: (0, chance.choice((20, 30, 59, 60, 61)), 61) for name in names})
        cases.append((box, chance.choice((0, 1, 4, chance.randint(0, 20))), wides, highs))
    return cases


def over_cases(many):
    """So many overs with a size and with measures for their parts, always the same ones."""
    chance, cases = random.Random(37), []
    words, bys = ("start", "mid", "mid2", "end"), (0, 0, 1, -1, 4, -7, MILLION, -MILLION)
    for _ in range(many):
        names = chance.sample(names_from(60), chance.randint(1, 12))
        anchors = [((chance.choice(words), chance.choice(bys)), (chance.choice(words), chance.choice(bys)))
                   for _ in names[1:]]
        measures = [{name: some_measure(chance, 12) for name in names} for _ in range(2)]
        cases.append((over("top", anchors, *map(leaf, names)), chance.randint(0, 9), chance.randint(0, 9), *measures))
    return cases
